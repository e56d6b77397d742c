import PyProof.Rows.All
import Wide.All
import OpenK.AllK
import Wide.FinOn
import Lean
import PyProof.EqAt
import PyProof.EqKinds
import PyProof.TupleCall
import KE.KTryMore
import KE.KRevIter
import KE.KSortTup
import KE.KDictSum
import KE.KRevSl
import PyProof.Rows.TupDisplay
import PyProof.EnumFor
import PyProof.EnumMake
import PyProof.EnumStmt
import PyProof.DictUpdate
import PyProof.AttrMissSeq
import KE.KDictOf
import PyProof.ListStr
import PyProof.SetScanFacts
import PyProof.Rows.SetFrom
import PyProof.TupleKey
import KE.LcSums
import PyProof.ListRange
import PySem.Challenge.RW_cellpatches_k12_whole_numbered
set_option Elab.async false
set_option linter.all false
set_option maxRecDepth 100000
namespace L2
open PySem
def dz(s:Stmt):Arguments:=match s with
 | .FunctionDef _ a _ _ _ _ _ _ _ _=>a
 |_=>{posonlyargs:=[],args:=[],vararg:=none,kwonlyargs:=[],kw_defaults:=[],kwarg:=none,defaults:=[]}
def bI(s:Stmt):List Stmt:=match s with
 | .FunctionDef _ _ b _ _ _ _ _ _ _=>b
 |_=>[]
def ag(s:Stmt):Scope:=match s with
 | .FunctionDef _ _ _ _ _ _ sc _ _ _=>sc
 |_=>{kind:= .function,names:=[],isGenerator:=false,isCoroutine:=false}
end L2
namespace K1
open PySem PySem.Spec
def top(i:Nat):Stmt:=PySem.Challenge.pw_cellpatches_k12_whole_numbered.main.body.getD i (.Pass ⟨0,0,0,0⟩)
abbrev hS(s:String)(t:Tok):Value:= .str (Str.ofString s) t
abbrev hE(P:Params)(s:String)(t:Tok)(v:Value):DictEntry:={hash:=PyData.keyHash P (Str.ofString s),key:=hS s t,val:=v}
abbrev hT(xs:Array Value):Obj:={cls:= .type "tuple",data:=Data.seq xs}
abbrev hF(s:String)(t:Stmt)(m:Value)(c:Addr):Obj:={cls:= .type "function",data:=Data.func {name:=Str.ofString s,qualname:=Str.ofString s,params:=L2.dz t,body:=FuncBody.stmts (L2.bI t),scope:=L2.ag t,globals:=3,closure:=[],defaults:= .none,kwdefaults:= .none,pyModule:=m,code:= .ref c} }
def lB:Params→W.Frag:=fun P=>(nat_lit 2,{cls:= .none,data:=Data.dict #[]})::
 (nat_lit 3,{cls:= .type "dict",data:=Data.dict #[hE P "__name__" 165 (hS "law_cellpatches_k12_whole_numbered" 485),hE P "__doc__" 166 .none,hE P "__package__" 167 .none,hE P "__loader__" 168 (.builtin "__main__.__loader__#opaque"),hE P "__spec__" 169 .none,hE P "__annotations__" 170 (.ref 6),hE P "__builtins__" 171 (.ref 4),hE P "__file__" 173 (hS "/claim/cut.py" 172),hE P "__cached__" 174 .none,hE P "PatchError" 206 (.ref 24),hE P "NoBoard" 222 (.ref 37),hE P "NoWays" 238 (.ref 49),hE P "NoCell" 254 (.ref 61),hE P "LETTERS" 258 (hS "abcdef" 257),hE P "MOST_ROWS" 260 (.int 8 259),hE P "MOST_COLUMNS" 262 (.int 8 261),hE P "is_whole" 269 (.ref 70),hE P "is_letter" 276 (.ref 77),hE P "is_row" 282 (.ref 82),hE P "is_board" 288 (.ref 87),hE P "is_cell" 296 (.ref 94),hE P "need_board" 303 (.ref 101),hE P "need_cell" 311 (.ref 108),hE P "need_ways" 318 (.ref 115),hE P "cells_of_row" 324 (.ref 120),hE P "all_cells" 333 (.ref 127),hE P "letter_of" 341 (.ref 134),hE P "are_next" 352 (.ref 141),hE P "next_cells" 364 (.ref 148),hE P "keyed" 373 (.ref 155),hE P "cells" 380 (.ref 162),hE P "letter_at" 388 (.ref 169),hE P "need_two_cells" 400 (.ref 176),hE P "like_cells" 406 (.ref 181),hE P "steps_back" 420 (.ref 188),hE P "all_patches" 432 (.ref 195),hE P "numbers_of" 443 (.ref 202),hE P "patch_of" 452 (.ref 209),hE P "patches" 460 (.ref 216),hE P "how_many" 468 (.ref 223),hE P "numbered" 474 (.ref 228),hE P "are_one" 484 (.ref 235),hE P "_law_cell" 494 (.ref 242),hE P "_law_drawn" 504 (.ref 249),hE P "_law_board" 510 (.ref 254),hE P "law" 516 (.ref 259)] 46})::
 (nat_lit 15,hT #[.type "ValueError"])::
 (nat_lit 22,hT #[])::
 (nat_lit 23,{cls:= .type "dict",data:=Data.dict #[hE P "__module__" 196 (hS "cellpatches.errors" 187),hE P "__firstlineno__" 200 (.int 2 199),hE P "__static_attributes__" 201 (.ref 22),hE P "__weakref__" 203 (.ref 25),hE P "__doc__" 204 .none] 3})::
 (nat_lit 24,{cls:= .type "type",data:=Data.cls {name:=Str.ofString "PatchError",bases:=[.type "ValueError"],mro:=[.ref 24, .type "ValueError", .type "Exception", .type "BaseException", .type "object"],ns:=23,qualname:=Str.ofString "PatchError",subclasses:=[.ref 37, .ref 49, .ref 61]},slots:= #[some (.ref 15),none,some (hS "PatchError" 189),some (hS "PatchError" 197),some (.builtin "ValueError.__new__"),some (.bool true)]})::
 (nat_lit 25,{cls:= .type "getset_descriptor",data:=Data.fields #[hS "__weakref__" 202, .ref 24, .builtin "ExceptionGroup.__weakref__", .none]})::
 (nat_lit 28,hT #[.ref 24])::
 (nat_lit 35,hT #[])::
 (nat_lit 36,{cls:= .type "dict",data:=Data.dict #[hE P "__module__" 214 (hS "cellpatches.errors" 187),hE P "__firstlineno__" 218 (.int 4 217),hE P "__static_attributes__" 219 (.ref 35),hE P "__doc__" 220 .none] 2})::
 (nat_lit 37,{cls:= .type "type",data:=Data.cls {name:=Str.ofString "NoBoard",bases:=[.ref 24],mro:=[.ref 37, .ref 24, .type "ValueError", .type "Exception", .type "BaseException", .type "object"],ns:=36,qualname:=Str.ofString "NoBoard"},slots:= #[some (.ref 28),none,some (hS "NoBoard" 207),some (hS "NoBoard" 215),some (.builtin "ValueError.__new__"),some (.bool true)]})::
 (nat_lit 40,hT #[.ref 24])::
 (nat_lit 47,hT #[])::
 (nat_lit 48,{cls:= .type "dict",data:=Data.dict #[hE P "__module__" 230 (hS "cellpatches.errors" 187),hE P "__firstlineno__" 234 (.int 6 233),hE P "__static_attributes__" 235 (.ref 47),hE P "__doc__" 236 .none] 2})::
 (nat_lit 49,{cls:= .type "type",data:=Data.cls {name:=Str.ofString "NoWays",bases:=[.ref 24],mro:=[.ref 49, .ref 24, .type "ValueError", .type "Exception", .type "BaseException", .type "object"],ns:=48,qualname:=Str.ofString "NoWays"},slots:= #[some (.ref 40),none,some (hS "NoWays" 223),some (hS "NoWays" 231),some (.builtin "ValueError.__new__"),some (.bool true)]})::
 (nat_lit 52,hT #[.ref 24])::
 (nat_lit 59,hT #[])::
 (nat_lit 60,{cls:= .type "dict",data:=Data.dict #[hE P "__module__" 246 (hS "cellpatches.errors" 187),hE P "__firstlineno__" 250 (.int 8 249),hE P "__static_attributes__" 251 (.ref 59),hE P "__doc__" 252 .none] 2})::
 (nat_lit 61,{cls:= .type "type",data:=Data.cls {name:=Str.ofString "NoCell",bases:=[.ref 24],mro:=[.ref 61, .ref 24, .type "ValueError", .type "Exception", .type "BaseException", .type "object"],ns:=60,qualname:=Str.ofString "NoCell"},slots:= #[some (.ref 52),none,some (hS "NoCell" 239),some (hS "NoCell" 247),some (.builtin "ValueError.__new__"),some (.bool true)]})::
 (nat_lit 64,hT #[])::
 (nat_lit 66,hT #[hS "thing" 266])::
 (nat_lit 67,hT #[])::
 (nat_lit 69,{cls:= .type "code",data:=Data.fields #[hS "is_whole" 263,hS "is_whole" 264,hS "/claim/cut.py" 265, .int 14 0, .int 1 0, .int 0 0, .int 0 0, .int 3 0, .ref 64, .bool true, .int 181 0, .ref 65, .none, .ref 66, .ref 67, .ref 68, .int 267 0, .int 14 0,hS "/claim/cut.py" 268]})::
 (nat_lit 70,hF "is_whole" (top 9) (hS "cellpatches.boards" 255) 69)::
 (nat_lit 71,hT #[])::
 (nat_lit 73,hT #[hS "thing" 273])::
 (nat_lit 74,hT #[])::
 (nat_lit 76,{cls:= .type "code",data:=Data.fields #[hS "is_letter" 270,hS "is_letter" 271,hS "/claim/cut.py" 272, .int 16 0, .int 1 0, .int 0 0, .int 0 0, .int 3 0, .ref 71, .bool true, .int 181 0, .ref 72, .none, .ref 73, .ref 74, .ref 75, .int 274 0, .int 16 0,hS "/claim/cut.py" 275]})::
 (nat_lit 77,hF "is_letter" (top 10) (hS "cellpatches.boards" 255) 76)::
 (nat_lit 78,hT #[])::
 (nat_lit 81,{cls:= .type "code",data:=Data.fields #[hS "is_row" 277,hS "is_row" 278,hS "/claim/cut.py" 279, .int 18 0, .int 1 0, .int 0 0, .int 0 0, .int 3 0, .ref 78, .bool true, .int 181 0, .ref 79, .none, .none, .none, .ref 80, .int 280 0, .int 18 0,hS "/claim/cut.py" 281]})::
 (nat_lit 82,hF "is_row" (top 11) (hS "cellpatches.boards" 255) 81)::
 (nat_lit 83,hT #[])::
 (nat_lit 86,{cls:= .type "code",data:=Data.fields #[hS "is_board" 283,hS "is_board" 284,hS "/claim/cut.py" 285, .int 22 0, .int 1 0, .int 0 0, .int 0 0, .int 3 0, .ref 83, .bool true, .int 181 0, .ref 84, .none, .none, .none, .ref 85, .int 286 0, .int 22 0,hS "/claim/cut.py" 287]})::
 (nat_lit 87,hF "is_board" (top 12) (hS "cellpatches.boards" 255) 86)::
 (nat_lit 88,hT #[])::
 (nat_lit 90,hT #[hS "board" 292,hS "thing" 293])::
 (nat_lit 91,hT #[])::
 (nat_lit 93,{cls:= .type "code",data:=Data.fields #[hS "is_cell" 289,hS "is_cell" 290,hS "/claim/cut.py" 291, .int 28 0, .int 2 0, .int 0 0, .int 0 0, .int 3 0, .ref 88, .bool true, .int 181 0, .ref 89, .none, .ref 90, .ref 91, .ref 92, .int 294 0, .int 28 0,hS "/claim/cut.py" 295]})::
 (nat_lit 94,hF "is_cell" (top 13) (hS "cellpatches.boards" 255) 93)::
 (nat_lit 95,hT #[])::
 (nat_lit 97,hT #[hS "thing" 300])::
 (nat_lit 98,hT #[])::
 (nat_lit 100,{cls:= .type "code",data:=Data.fields #[hS "need_board" 297,hS "need_board" 298,hS "/claim/cut.py" 299, .int 34 0, .int 1 0, .int 0 0, .int 0 0, .int 3 0, .ref 95, .bool true, .int 181 0, .ref 96, .none, .ref 97, .ref 98, .ref 99, .int 301 0, .int 34 0,hS "/claim/cut.py" 302]})::
 (nat_lit 101,hF "need_board" (top 14) (hS "cellpatches.boards" 255) 100)::
 (nat_lit 102,hT #[])::
 (nat_lit 104,hT #[hS "board" 307,hS "thing" 308])::
 (nat_lit 105,hT #[])::
 (nat_lit 107,{cls:= .type "code",data:=Data.fields #[hS "need_cell" 304,hS "need_cell" 305,hS "/claim/cut.py" 306, .int 37 0, .int 2 0, .int 0 0, .int 0 0, .int 3 0, .ref 102, .bool true, .int 181 0, .ref 103, .none, .ref 104, .ref 105, .ref 106, .int 309 0, .int 37 0,hS "/claim/cut.py" 310]})::
 (nat_lit 108,hF "need_cell" (top 15) (hS "cellpatches.boards" 255) 107)::
 (nat_lit 109,hT #[])::
 (nat_lit 111,hT #[hS "thing" 315])::
 (nat_lit 112,hT #[])::
 (nat_lit 114,{cls:= .type "code",data:=Data.fields #[hS "need_ways" 312,hS "need_ways" 313,hS "/claim/cut.py" 314, .int 40 0, .int 1 0, .int 0 0, .int 0 0, .int 3 0, .ref 109, .bool true, .int 181 0, .ref 110, .none, .ref 111, .ref 112, .ref 113, .int 316 0, .int 40 0,hS "/claim/cut.py" 317]})::
 (nat_lit 115,hF "need_ways" (top 16) (hS "cellpatches.boards" 255) 114)::
 (nat_lit 116,hT #[])::
 (nat_lit 119,{cls:= .type "code",data:=Data.fields #[hS "cells_of_row" 319,hS "cells_of_row" 320,hS "/claim/cut.py" 321, .int 43 0, .int 2 0, .int 0 0, .int 0 0, .int 3 0, .ref 116, .bool true, .int 181 0, .ref 117, .none, .none, .none, .ref 118, .int 322 0, .int 43 0,hS "/claim/cut.py" 323]})::
 (nat_lit 120,hF "cells_of_row" (top 17) (hS "cellpatches.boards" 255) 119)::
 (nat_lit 121,hT #[])::
 (nat_lit 123,hT #[hS "board" 328,hS "found" 329,hS "row" 330])::
 (nat_lit 124,hT #[])::
 (nat_lit 126,{cls:= .type "code",data:=Data.fields #[hS "all_cells" 325,hS "all_cells" 326,hS "/claim/cut.py" 327, .int 45 0, .int 1 0, .int 0 0, .int 0 0, .int 3 0, .ref 121, .bool true, .int 181 0, .ref 122, .none, .ref 123, .ref 124, .ref 125, .int 331 0, .int 45 0,hS "/claim/cut.py" 332]})::
 (nat_lit 127,hF "all_cells" (top 18) (hS "cellpatches.boards" 255) 126)::
 (nat_lit 128,hT #[])::
 (nat_lit 130,hT #[hS "board" 337,hS "cell" 338])::
 (nat_lit 131,hT #[])::
 (nat_lit 133,{cls:= .type "code",data:=Data.fields #[hS "letter_of" 334,hS "letter_of" 335,hS "/claim/cut.py" 336, .int 50 0, .int 2 0, .int 0 0, .int 0 0, .int 3 0, .ref 128, .bool true, .int 181 0, .ref 129, .none, .ref 130, .ref 131, .ref 132, .int 339 0, .int 50 0,hS "/claim/cut.py" 340]})::
 (nat_lit 134,hF "letter_of" (top 19) (hS "cellpatches.boards" 255) 133)::
 (nat_lit 135,hT #[])::
 (nat_lit 137,hT #[hS "one" 345,hS "other" 346,hS "ways" 347,hS "down" 348,hS "along" 349])::
 (nat_lit 138,hT #[])::
 (nat_lit 140,{cls:= .type "code",data:=Data.fields #[hS "are_next" 342,hS "are_next" 343,hS "/claim/cut.py" 344, .int 52 0, .int 3 0, .int 0 0, .int 0 0, .int 3 0, .ref 135, .bool true, .int 181 0, .ref 136, .none, .ref 137, .ref 138, .ref 139, .int 350 0, .int 52 0,hS "/claim/cut.py" 351]})::
 (nat_lit 141,hF "are_next" (top 20) (hS "cellpatches.boards" 255) 140)::
 (nat_lit 142,hT #[])::
 (nat_lit 144,hT #[hS "board" 356,hS "cell" 357,hS "ways" 358,hS "found" 359,hS "row" 360,hS "column" 361])::
 (nat_lit 145,hT #[])::
 (nat_lit 147,{cls:= .type "code",data:=Data.fields #[hS "next_cells" 353,hS "next_cells" 354,hS "/claim/cut.py" 355, .int 58 0, .int 3 0, .int 0 0, .int 0 0, .int 3 0, .ref 142, .bool true, .int 181 0, .ref 143, .none, .ref 144, .ref 145, .ref 146, .int 362 0, .int 58 0,hS "/claim/cut.py" 363]})::
 (nat_lit 148,hF "next_cells" (top 21) (hS "cellpatches.boards" 255) 147)::
 (nat_lit 149,hT #[])::
 (nat_lit 151,hT #[hS "things" 368,hS "found" 369,hS "thing" 370])::
 (nat_lit 152,hT #[])::
 (nat_lit 154,{cls:= .type "code",data:=Data.fields #[hS "keyed" 365,hS "keyed" 366,hS "/claim/cut.py" 367, .int 65 0, .int 1 0, .int 0 0, .int 0 0, .int 3 0, .ref 149, .bool true, .int 181 0, .ref 150, .none, .ref 151, .ref 152, .ref 153, .int 371 0, .int 65 0,hS "/claim/cut.py" 372]})::
 (nat_lit 155,hF "keyed" (top 22) (hS "cellpatches.boards" 255) 154)::
 (nat_lit 156,hT #[])::
 (nat_lit 158,hT #[hS "board" 377])::
 (nat_lit 159,hT #[])::
 (nat_lit 161,{cls:= .type "code",data:=Data.fields #[hS "cells" 374,hS "cells" 375,hS "/claim/cut.py" 376, .int 70 0, .int 1 0, .int 0 0, .int 0 0, .int 3 0, .ref 156, .bool true, .int 181 0, .ref 157, .none, .ref 158, .ref 159, .ref 160, .int 378 0, .int 70 0,hS "/claim/cut.py" 379]})::
 (nat_lit 162,hF "cells" (top 23) (hS "cellpatches.boards" 255) 161)::
 (nat_lit 163,hT #[])::
 (nat_lit 165,hT #[hS "board" 384,hS "cell" 385])::
 (nat_lit 166,hT #[])::
 (nat_lit 168,{cls:= .type "code",data:=Data.fields #[hS "letter_at" 381,hS "letter_at" 382,hS "/claim/cut.py" 383, .int 73 0, .int 2 0, .int 0 0, .int 0 0, .int 3 0, .ref 163, .bool true, .int 181 0, .ref 164, .none, .ref 165, .ref 166, .ref 167, .int 386 0, .int 73 0,hS "/claim/cut.py" 387]})::
 (nat_lit 169,hF "letter_at" (top 24) (hS "cellpatches.boards" 255) 168)::
 (nat_lit 170,hT #[])::
 (nat_lit 172,hT #[hS "board" 394,hS "ways" 395,hS "one" 396,hS "other" 397])::
 (nat_lit 173,hT #[])::
 (nat_lit 175,{cls:= .type "code",data:=Data.fields #[hS "need_two_cells" 391,hS "need_two_cells" 392,hS "/claim/cut.py" 393, .int 78 0, .int 4 0, .int 0 0, .int 0 0, .int 3 0, .ref 170, .bool true, .int 181 0, .ref 171, .none, .ref 172, .ref 173, .ref 174, .int 398 0, .int 78 0,hS "/claim/cut.py" 399]})::
 (nat_lit 176,hF "need_two_cells" (top 26) (hS "cellpatches.patches" 389) 175)::
 (nat_lit 177,hT #[])::
 (nat_lit 180,{cls:= .type "code",data:=Data.fields #[hS "like_cells" 401,hS "like_cells" 402,hS "/claim/cut.py" 403, .int 83 0, .int 3 0, .int 0 0, .int 0 0, .int 3 0, .ref 177, .bool true, .int 181 0, .ref 178, .none, .none, .none, .ref 179, .int 404 0, .int 83 0,hS "/claim/cut.py" 405]})::
 (nat_lit 181,hF "like_cells" (top 27) (hS "cellpatches.patches" 389) 180)::
 (nat_lit 182,hT #[])::
 (nat_lit 184,hT #[hS "board" 410,hS "start" 411,hS "ways" 412,hS "back" 413,hS "ring" 414,hS "further" 415,hS "cell" 416,hS "near" 417])::
 (nat_lit 185,hT #[])::
 (nat_lit 187,{cls:= .type "code",data:=Data.fields #[hS "steps_back" 407,hS "steps_back" 408,hS "/claim/cut.py" 409, .int 86 0, .int 3 0, .int 0 0, .int 0 0, .int 3 0, .ref 182, .bool true, .int 181 0, .ref 183, .none, .ref 184, .ref 185, .ref 186, .int 418 0, .int 86 0,hS "/claim/cut.py" 419]})::
 (nat_lit 188,hF "steps_back" (top 28) (hS "cellpatches.patches" 389) 187)::
 (nat_lit 189,hT #[])::
 (nat_lit 191,hT #[hS "board" 424,hS "ways" 425,hS "found" 426,hS "seen" 427,hS "cell" 428,hS "patch" 429])::
 (nat_lit 192,hT #[])::
 (nat_lit 194,{cls:= .type "code",data:=Data.fields #[hS "all_patches" 421,hS "all_patches" 422,hS "/claim/cut.py" 423, .int 98 0, .int 2 0, .int 0 0, .int 0 0, .int 3 0, .ref 189, .bool true, .int 181 0, .ref 190, .none, .ref 191, .ref 192, .ref 193, .int 430 0, .int 98 0,hS "/claim/cut.py" 431]})::
 (nat_lit 195,hF "all_patches" (top 29) (hS "cellpatches.patches" 389) 194)::
 (nat_lit 196,hT #[])::
 (nat_lit 198,hT #[hS "found" 436,hS "numbers" 437,hS "number" 438,hS "patch" 439,hS "cell" 440])::
 (nat_lit 199,hT #[])::
 (nat_lit 201,{cls:= .type "code",data:=Data.fields #[hS "numbers_of" 433,hS "numbers_of" 434,hS "/claim/cut.py" 435, .int 107 0, .int 1 0, .int 0 0, .int 0 0, .int 3 0, .ref 196, .bool true, .int 181 0, .ref 197, .none, .ref 198, .ref 199, .ref 200, .int 441 0, .int 107 0,hS "/claim/cut.py" 442]})::
 (nat_lit 202,hF "numbers_of" (top 30) (hS "cellpatches.patches" 389) 201)::
 (nat_lit 203,hT #[])::
 (nat_lit 205,hT #[hS "board" 447,hS "cell" 448,hS "ways" 449])::
 (nat_lit 206,hT #[])::
 (nat_lit 208,{cls:= .type "code",data:=Data.fields #[hS "patch_of" 444,hS "patch_of" 445,hS "/claim/cut.py" 446, .int 113 0, .int 3 0, .int 0 0, .int 0 0, .int 3 0, .ref 203, .bool true, .int 181 0, .ref 204, .none, .ref 205, .ref 206, .ref 207, .int 450 0, .int 113 0,hS "/claim/cut.py" 451]})::
 (nat_lit 209,hF "patch_of" (top 31) (hS "cellpatches.patches" 389) 208)::
 (nat_lit 210,hT #[])::
 (nat_lit 212,hT #[hS "board" 456,hS "ways" 457])::
 (nat_lit 213,hT #[])::
 (nat_lit 215,{cls:= .type "code",data:=Data.fields #[hS "patches" 453,hS "patches" 454,hS "/claim/cut.py" 455, .int 118 0, .int 2 0, .int 0 0, .int 0 0, .int 3 0, .ref 210, .bool true, .int 181 0, .ref 211, .none, .ref 212, .ref 213, .ref 214, .int 458 0, .int 118 0,hS "/claim/cut.py" 459]})::
 (nat_lit 216,hF "patches" (top 32) (hS "cellpatches.patches" 389) 215)::
 (nat_lit 217,hT #[])::
 (nat_lit 219,hT #[hS "board" 464,hS "ways" 465])::
 (nat_lit 220,hT #[])::
 (nat_lit 222,{cls:= .type "code",data:=Data.fields #[hS "how_many" 461,hS "how_many" 462,hS "/claim/cut.py" 463, .int 122 0, .int 2 0, .int 0 0, .int 0 0, .int 3 0, .ref 217, .bool true, .int 181 0, .ref 218, .none, .ref 219, .ref 220, .ref 221, .int 466 0, .int 122 0,hS "/claim/cut.py" 467]})::
 (nat_lit 223,hF "how_many" (top 33) (hS "cellpatches.patches" 389) 222)::
 (nat_lit 224,hT #[])::
 (nat_lit 227,{cls:= .type "code",data:=Data.fields #[hS "numbered" 469,hS "numbered" 470,hS "/claim/cut.py" 471, .int 126 0, .int 2 0, .int 0 0, .int 0 0, .int 3 0, .ref 224, .bool true, .int 181 0, .ref 225, .none, .none, .none, .ref 226, .int 472 0, .int 126 0,hS "/claim/cut.py" 473]})::
 (nat_lit 228,hF "numbered" (top 34) (hS "cellpatches.patches" 389) 227)::
 (nat_lit 229,hT #[])::
 (nat_lit 231,hT #[hS "board" 478,hS "ways" 479,hS "one" 480,hS "other" 481])::
 (nat_lit 232,hT #[])::
 (nat_lit 234,{cls:= .type "code",data:=Data.fields #[hS "are_one" 475,hS "are_one" 476,hS "/claim/cut.py" 477, .int 134 0, .int 4 0, .int 0 0, .int 0 0, .int 3 0, .ref 229, .bool true, .int 181 0, .ref 230, .none, .ref 231, .ref 232, .ref 233, .int 482 0, .int 134 0,hS "/claim/cut.py" 483]})::
 (nat_lit 235,hF "are_one" (top 35) (hS "cellpatches.patches" 389) 234)::
 (nat_lit 236,hT #[])::
 (nat_lit 238,hT #[hS "_law_script" 490,hS "_law_k" 491])::
 (nat_lit 239,hT #[])::
 (nat_lit 241,{cls:= .type "code",data:=Data.fields #[hS "_law_cell" 487,hS "_law_cell" 488,hS "/claim/cut.py" 489, .int 138 0, .int 2 0, .int 0 0, .int 0 0, .int 3 0, .ref 236, .bool true, .int 181 0, .ref 237, .none, .ref 238, .ref 239, .ref 240, .int 492 0, .int 138 0,hS "/claim/cut.py" 493]})::
 (nat_lit 242,hF "_law_cell" (top 37) (hS "law_cellpatches_k12_whole_numbered" 485) 241)::
 (nat_lit 243,hT #[])::
 (nat_lit 245,hT #[hS "_law_script" 498,hS "_law_k" 499,hS "_law_many" 500,hS "_law_cell_here" 501])::
 (nat_lit 246,hT #[])::
 (nat_lit 248,{cls:= .type "code",data:=Data.fields #[hS "_law_drawn" 495,hS "_law_drawn" 496,hS "/claim/cut.py" 497, .int 142 0, .int 3 0, .int 0 0, .int 0 0, .int 3 0, .ref 243, .bool true, .int 181 0, .ref 244, .none, .ref 245, .ref 246, .ref 247, .int 502 0, .int 142 0,hS "/claim/cut.py" 503]})::
 (nat_lit 249,hF "_law_drawn" (top 38) (hS "law_cellpatches_k12_whole_numbered" 485) 248)::
 (nat_lit 250,hT #[])::
 (nat_lit 253,{cls:= .type "code",data:=Data.fields #[hS "_law_board" 505,hS "_law_board" 506,hS "/claim/cut.py" 507, .int 146 0, .int 3 0, .int 0 0, .int 0 0, .int 3 0, .ref 250, .bool true, .int 181 0, .ref 251, .none, .none, .none, .ref 252, .int 508 0, .int 146 0,hS "/claim/cut.py" 509]})::
 (nat_lit 254,hF "_law_board" (top 39) (hS "law_cellpatches_k12_whole_numbered" 485) 253)::
 (nat_lit 255,hT #[])::
 (nat_lit 258,{cls:= .type "code",data:=Data.fields #[hS "law" 511,hS "law" 512,hS "/claim/cut.py" 513, .int 155 0, .int 1 0, .int 0 0, .int 0 0, .int 3 0, .ref 255, .bool true, .int 181 0, .ref 256, .none, .none, .none, .ref 257, .int 514 0, .int 155 0,hS "/claim/cut.py" 515]})::
 (nat_lit 259,hF "law" (top 40) (hS "law_cellpatches_k12_whole_numbered" 485) 258)::[]
def lA:List Nat:=[2,3,15,22,23,24,25,28,35,36,37,40,47,48,49,52,59,60,61,64,66,67,69,70,71,73,74,76,77,78,81,82,83,86,87,88,90,91,93,94,95,97,98,100,101,102,104,105,107,108,109,111,112,114,115,116,119,120,121,123,124,126,127,128,130,131,133,134,135,137,138,140,141,142,144,145,147,148,149,151,152,154,155,156,158,159,161,162,163,165,166,168,169,170,172,173,175,176,177,180,181,182,184,185,187,188,189,191,192,194,195,196,198,199,201,202,203,205,206,208,209,210,212,213,215,216,217,219,220,222,223,224,227,228,229,231,232,234,235,236,238,239,241,242,243,245,246,248,249,250,253,254,255,258,259]
def sG:Program:={PySem.Challenge.pw_cellpatches_k12_whole_numbered with main:={PySem.Challenge.pw_cellpatches_k12_whole_numbered.main with body:=[top 1,top 2,top 3,top 4,top 6,top 7,top 8,top 9,top 10,top 11,top 12,top 13,top 14,top 15,top 16,top 17,top 18,top 19,top 20,top 21,top 22,top 23,top 24,top 26,top 27,top 28,top 29,top 30,top 31,top 32,top 33,top 34,top 35,top 37,top 38,top 39,top 40]} }
open PySem.W PyProof.Rows in
set_option maxHeartbeats 0 in
theorem Fj:LeftO PySem.Challenge.rw_cellpatches_k12_whole_numbered.row.prog sG [] (fun s=>xlAt sG [] s&&recOk PySem.Challenge.rw_cellpatches_k12_whole_numbered.row.records s) (kHook lB lA (fun _=>by kernel_rfl)).obs (kHook lB lA (fun _=>by kernel_rfl)).val 3694:=fun w=>by kernel_rfl
end K1
namespace L2
open PySem PySem.Spec PyProof.Rows
abbrev Key:=Sum Int Str
def lK:Key→Value→Bool
 | .inl k,v=>Value.isInt k v
 | .inr x,v=>Value.isStrOf x v
def FJ(w:World):Key→Int
 | .inl k=>hashInt k
 | .inr x=>hashStr w x
theorem bB:∀{k:Key}{v:Value},lK k v=true→(∃i t,k=Sum.inl i∧v=Value.int i t)∨(∃x t,k=Sum.inr x∧v=Value.str x t)
 | .inl i,v,h=>by
   obtain⟨t,e⟩:=Value.isInt_shape (k:=i) (v:=v) h
   exact .inl ⟨i,t,rfl,e⟩
 | .inr x,v,h=>by
   obtain⟨t,e⟩:=Value.isStrOf_shape (x:=x) (v:=v) h
   exact .inr ⟨x,t,rfl,e⟩
theorem wj(i:Int)(t:Tok):lK (.inl i) (.int i t)=true:=by simp[lK,Value.isInt]
theorem wk(x:Str)(t:Tok):lK (.inr x) (.str x t)=true:=by simp[lK,Value.isStrOf]
theorem Dj(a b:Int):decide ((Sum.inl a:Key)=Sum.inl b)=(a==b):=by
 by_cases e:a=b
 ·subst e;simp
 ·have h:¬(Sum.inl a:Key)=Sum.inl b:=fun q=>e (Sum.inl.inj q)
  rw[decide_eq_false h]
  exact(beq_eq_false_iff_ne.mpr e).symm
theorem Dm(a b:Str):decide ((Sum.inr a:Key)=Sum.inr b)=decide (a=b):=by
 by_cases e:a=b
 ·subst e;simp
 ·have h:¬(Sum.inr a:Key)=Sum.inr b:=fun q=>e (Sum.inr.inj q)
  rw[decide_eq_false h,decide_eq_false e]
theorem Dk(a:Int)(b:Str):decide ((Sum.inl a:Key)=Sum.inr b)=false:=decide_eq_false (fun q=>nomatch q)
theorem Dl(a:Str)(b:Int):decide ((Sum.inr a:Key)=Sum.inl b)=false:=decide_eq_false (fun q=>nomatch q)
def bb(prog:Program)(w:World):PySem.KeyKind prog w Key where
 is:=lK
 hash:=FJ w
 inj:=fun v a b ha hb=>by
  rcases bB ha with⟨i,t,rfl,rfl⟩ | ⟨x,t,rfl,rfl⟩
  ·rcases bB hb with⟨j,u,rfl,e⟩ | ⟨y,u,rfl,e⟩
   ·injection e with e1 _;rw[e1]
   ·exact nomatch e
  ·rcases bB hb with⟨j,u,rfl,e⟩ | ⟨y,u,rfl,e⟩
   ·exact nomatch e
   ·injection e with e1 _;rw[e1]
 byValue:=fun k v h=>by
  rcases bB h with⟨i,t,rfl,rfl⟩ | ⟨x,t,rfl,rfl⟩<;>rfl
 pyHash:=fun hv h=>by
  rcases bB hv with⟨i,t,rfl,rfl⟩ | ⟨x,t,rfl,rfl⟩
  ·exact wpAny_pyHash_int h
  ·exact wpAny_pyHash_str h
 eqBool:=fun hu hv h=>by
  rcases bB hu with⟨i,t,rfl,rfl⟩ | ⟨x,t,rfl,rfl⟩
  ·rcases bB hv with⟨j,u,rfl,rfl⟩ | ⟨y,u,rfl,rfl⟩
   ·rw[Dj] at h;exact wpAny_eqBool_int h
   ·rw[Dk] at h;exact SeqAt.EqAt.int_str i t y u _ _ _ _ h
  ·rcases bB hv with⟨j,u,rfl,rfl⟩ | ⟨y,u,rfl,rfl⟩
   ·rw[Dl] at h;exact SeqAt.EqAt.str_int x t j u _ _ _ _ h
   ·rw[Dm] at h;exact wpAny_eqBool_str h
 «strs» :=fun k x t v h=>by
  rcases bB h with⟨i,u,rfl,e⟩ | ⟨y,u,rfl,e⟩
  ·exact nomatch e
  ·injection e with e1 _
   subst e1
   cases v<;>rfl
theorem rB(prog:Program)(w:World)(i:Int)(t:Tok):(bb prog w).is (.inl i) (.int i t)=true:=wj i t
theorem rC(prog:Program)(w:World)(x:Str)(t:Tok):(bb prog w).is (.inr x) (.str x t)=true:=wk x t
inductive V where
 |non | bl (b:Bool) | int (i:Int) | str (x:Str) | byt (b:Array UInt8) | flt (b:UInt64) | ref (a:Addr) | ty (n:String)
 deriving DecidableEq
def RelV:V→Value→Prop
 | .non,u=>u=Value.none
 | .bl b,u=>u=Value.bool b
 | .int i,u=>∃t,u=Value.int i t
 | .str x,u=>∃t,u=Value.str x t
 | .byt b,u=>∃t,u=Value.bytes b t
 | .flt b,u=>∃t,u=Value.float b t
 | .ref a,u=>u=Value.ref a
 | .ty n,u=>u=Value.type n
abbrev Vals:List V→List Value→Prop:=Paired RelV
theorem Vals.length{xs:List V}{us:List Value}(r:Vals xs us):xs.length=us.length:=Paired.length r
theorem Vals.get:∀{xs:List V}{us:List Value}{i:Nat}{x:V},Vals xs us→xs[i]? =some x→∃u,us[i]? =some u∧RelV x u
 |_,_,_,_, .nil,e=>by simp at e
 |_,_,0,_, .cons r _,e=>by simp at e;subst e;exact⟨_,rfl,r⟩
 |_,_,i+1,x, .cons _ t,e=>by
  obtain⟨u,h1,h2⟩:=Vals.get (i:=i) (x:=x) t (by simpa using e)
  exact⟨u,by simpa using h1,h2⟩
theorem Vals.append:∀{xs ys:List V}{us ws:List Value},Vals xs us→Vals ys ws→Vals (xs++ys) (us++ws)
 |_,_,_,_, .nil,s=>s
 |_,_,_,_, .cons r t,s=> .cons r (Vals.append t s)
theorem Vals.take:∀{xs:List V}{us:List Value}(n:Nat),Vals xs us→Vals (xs.take n) (us.take n)
 |_,_,0,_=> .nil
 |_,_,_+1, .nil=> .nil
 |_,_,n+1, .cons r t=> .cons r (Vals.take n t)
theorem Vals.drop:∀{xs:List V}{us:List Value}(n:Nat),Vals xs us→Vals (xs.drop n) (us.drop n)
 |_,_,0,r=>r
 |_,_,_+1, .nil=> .nil
 |_,_,n+1, .cons _ t=>Vals.drop n t
def RelO:Option V→Option Value→Prop
 |some v,some u=>RelV v u
 |none,none=>True
 |_,_=>False
def KV{κ:Type}:List (κ×V)→List (κ×Value)→Prop:=Paired fun(p:κ×V) (q:κ×Value)=>p.1=q.1∧RelV p.2 q.2
def kV:Key→V
 | .inl i=> .int i
 | .inr x=> .str x
inductive HO where
 |lst (xs:List V)
 |tup (xs:List V)
 |dK (aw:List (Key×V)) | dT (aw:List (List Key×V))
 |set (S:Int→Bool) (n:Nat)
 |ins (C dx:Addr) (fs:List (Str×V))
 |own (x:Addr)
 |xd (fs:List (Str×V))
 |met (f x:Addr)
 |rng (lo hi:Int)
 |frz (o:Obj) (u:HO)
 |tbl (ps:Array Value)
 |ext (φ:Heap→Prop)
abbrev Hp:=Addr→Option HO
def upd(H:Hp)(a:Addr)(o:HO):Hp:=fun b=>if b=a then some o else H b
theorem aF{H:Hp}{a:Addr}{o:HO}:upd H a o a=some o:=by unfold upd;rw[if_pos rfl]
theorem av{H:Hp}{a b:Addr}{o:HO}(h:b≠a):upd H a o b=H b:=by unfold upd;rw[if_neg h]
theorem yE{H:Hp}{a b:Addr}{o u:HO}(h:H a=some o)(h':H b=some u)(d:o≠u):a≠b:=by
 intro e;subst e;rw[h] at h';exact d (Option.some.inj h')
theorem aV{H:Hp}{a b:Addr}{o:HO}(h:H a=some o)(h':H b=none):a≠b:=by
 intro e;subst e;rw[h] at h';cases h'
section
variable(P:Program)(w:World)
def ObjOk(H:Hp)(h:Heap)(a:Addr):HO→Prop
 | .lst xs=>xs.length≤sizeLine∧∃(aA:List Value) (n:Nat),Vals xs aA∧h.get? a=some {cls:= .type "list",data:= .seq aA.toArray n}
 | .tup xs=>xs.length≤sizeLine∧∃aA:List Value,Vals xs aA∧IsTup h a aA.toArray
 | .dK aw=>aw.length≤sizeLine∧(a==sysModules)=false∧∃vs,KV aw vs∧h.DictOf (bb P w) a vs
 | .dT aw=>aw.length≤sizeLine∧(a==sysModules)=false∧∃xs:List (List Key×Addr×Value),
    Paired (fun (p:List Key×V) (q:List Key×Addr×Value)=>p.1=q.1∧H q.2.1=some (.tup (p.1.map kV))∧RelV p.2 q.2.2) aw xs∧
    ∃o es ep,h.get? a=some o∧o.ExactDict∧o.data= .dict es ep∧es.toList=xs.map (entryOfKey (tupleKind (bb P w)))∧(xs.map (·.1)).Nodup
 | .set S n=>h.SetOf (intKind P w) a S n
 | .ins C dx fs=>H dx=some (.own a)∧fs.length≤1000∧dx≠a∧h.get? a=some (PySem.W.instObj C dx)∧
    ∃mA,h.Ns1 dx mA∧(∀f,RelO (fs.lookup f) (mA f))∧PySem.Within mA (fs.map (·.1))
 | .own _=>∃o,h.get? a=some o
 | .xd fs=>∃mA,h.Ns1 a mA∧∀f,RelO (fs.lookup f) (mA f)
 | .rng lo hi=>∃t u v,h.get? a=some {cls:= .type "range",data:= .fields #[.int lo t, .int hi u, .int 1 v]}
 | .frz o u=>h.get? a=some o∧ObjOk H h a u
 | .tbl ps=>h.get? a=some {cls:= .none,data:= .fields ps}
 | .met f x=>h.get? a=some (PySem.W.methodObj (.ref f) (.ref x))
 | .ext φ=>φ h∧(∃o,h.get? a=some o)∧∀h1 h2:Heap,φ h1→(∀o,h1.get? a=some o→h2.get? a=some o)→φ h2
def HOk(H:Hp)(h:Heap):Prop:=∀a o,H a=some o→ObjOk P w H h a o
end
section
variable{P:Program}{w:World}{H H':Hp}{h h':Heap}{a:Addr}{o:HO}
theorem ObjOk.lt(x:ObjOk P w H h a o):a<h.objs.size:=by
 cases o with
 |lst xs=>obtain⟨_,_,_,_,e⟩:=x;exact Heap.lt_size e
 |tup xs=>obtain⟨_,_,_,p⟩:=x;exact p.lt
 |dK aw=>obtain⟨_,_,_,_,o,_,_,e,_⟩:=x;exact Heap.lt_size e
 |dT aw=>obtain⟨_,_,_,_,o,_,_,e,_⟩:=x;exact Heap.lt_size e
 |set S n=>obtain⟨o,_,_,_,e,_⟩:=x;exact Heap.lt_size e
 |ins C dx fs=>obtain⟨_,_,_,e,_⟩:=x;exact Heap.lt_size e
 |own y=>obtain⟨_,e⟩:=x;exact Heap.lt_size e
 |xd fs=>obtain⟨_,⟨_,_,_,e,_⟩,_⟩:=x;exact Heap.lt_size e
 |rng lo hi=>obtain⟨_,_,_,e⟩:=x;exact Heap.lt_size e
 |frz ob u=>obtain⟨e,_⟩:=x;exact Heap.lt_size e
 |tbl ps=>exact Heap.lt_size (show h.get? a=some _ from x)
 |met f y=>exact Heap.lt_size (show h.get? a=some _ from x)
 |ext φ=>obtain⟨_,⟨_,e⟩,_⟩:=x;exact Heap.lt_size e
theorem Paired.mapP{α β:Type}{F G:α→β→Prop}:∀{l₁:List α}{l₂:List β},Paired F l₁ l₂→(∀a b,F a b→G a b)→Paired G l₁ l₂
 |_,_, .nil,_=> .nil
 |_,_, .cons r t,f=> .cons (f _ _ r) (Paired.mapP t f)
theorem ObjOk.stay(x:ObjOk P w H h a o)(k:∀b u,(b=a∨H b=some (.own a))→h.get? b=some u→h'.get? b=some u)
 (ho:∀b,H b=some (.own a)→H' b=some (.own a))(ht:∀b xs,H b=some (.tup xs)→H' b=some (.tup xs)):ObjOk P w H' h' a o:=by
 induction o with
 |lst xs=>obtain⟨z,aA,n,r,e⟩:=x;exact⟨z,aA,n,r,k _ _ (.inl rfl) e⟩
 |tup xs=>obtain⟨z,aA,r,ob,e,c⟩:=x;exact⟨z,aA,r,ob,k _ _ (.inl rfl) e,c⟩
 |dK aw=>obtain⟨z,y,vs,r,ob,es,ep,e,c⟩:=x;exact⟨z,y,vs,r,ob,es,ep,k _ _ (.inl rfl) e,c⟩
 |dT aw=>
  obtain⟨z,y,xs,r,ob,es,ep,e,c⟩:=x
  exact⟨z,y,xs,Paired.mapP r fun p q z=>⟨z.1,ht _ _ z.2.1,z.2.2⟩,ob,es,ep,k _ _ (.inl rfl) e,c⟩
 |set S n=>obtain⟨ob,es,ep,t,e,c⟩:=x;exact⟨ob,es,ep,t,k _ _ (.inl rfl) e,c⟩
 |ins C dx fs=>
  obtain⟨d,z,ne,e,mA,⟨od,es,ep,e2,c⟩,r⟩:=x
  exact⟨ho _ d,z,ne,k _ _ (.inl rfl) e,mA,⟨od,es,ep,k _ _ (.inr d) e2,c⟩,r⟩
 |own y=>obtain⟨ob,e⟩:=x;exact⟨ob,k _ _ (.inl rfl) e⟩
 |xd fs=>obtain⟨mA,⟨od,es,ep,e,c⟩,r⟩:=x;exact⟨mA,⟨od,es,ep,k _ _ (.inl rfl) e,c⟩,r⟩
 |rng lo hi=>obtain⟨t,u,v,e⟩:=x;exact⟨t,u,v,k _ _ (.inl rfl) e⟩
 |frz ob u ih=>obtain⟨e,q⟩:=x;exact⟨k _ _ (.inl rfl) e,ih q⟩
 |tbl ps=>
  have e:h.get? a=some {cls:= .none,data:= .fields ps}:=x
  show h'.get? a=some {cls:= .none,data:= .fields ps}
  exact k a _ (.inl rfl) e
 |met f y=>
  have e:h.get? a=some (PySem.W.methodObj (.ref f) (.ref y)):=x
  show h'.get? a=some (PySem.W.methodObj (.ref f) (.ref y))
  exact k a _ (.inl rfl) e
 |ext φ=>obtain⟨p,⟨o,e⟩,st⟩:=x;exact⟨st _ _ p fun o q=>k _ _ (.inl rfl) q,⟨o,k _ _ (.inl rfl) e⟩,st⟩
theorem HOk.lt(x:HOk P w H h)(e:H a=some o):a<h.objs.size:=(x a o e).lt
theorem HOk.fresh(x:HOk P w H h)(e:h.objs.size≤a):H a=none:=by
 cases q:H a with
 |none=>rfl
 |some u=>exact absurd (Nat.lt_of_lt_of_le (x.lt q) e) (Nat.lt_irrefl _)
theorem HOk.kept(x:HOk P w H h)(k:∀b u,h.get? b=some u→h'.get? b=some u):HOk P w H h':=fun a o e=>
 (x a o e).stay (fun b u _ q=>k b u q) (fun _ q=>q) fun _ _ q=>q
theorem HOk.laid(x:HOk P w H h)(k:∀b u,h.get? b=some u→h'.get? b=some u)(hp:h.objs.size≤a)(new:ObjOk P w (upd H a o) h' a o):HOk P w (upd H a o) h':=fun b u e=>by
 have hn:=x.fresh hp
 by_cases hb:b=a
 ·subst hb;rw[aF] at e;cases e;exact new
 ·rw[av hb] at e
  exact(x b u e).stay (fun c v _ q=>k c v q) (fun c q=>by rw[av (aV q hn)];exact q) fun c xs q=>by rw[av (aV q hn)];exact q
end
def Rd(H:Hp)(a:Addr)(u:HO):Prop:=H a=some u∨∃o,H a=some (.frz o u)
theorem Rd.ok{P:Program}{w:World}{H:Hp}{h:Heap}{a:Addr}{u:HO}(r:Rd H a u)(x:HOk P w H h):ObjOk P w H h a u:=by
 rcases r with r | ⟨o,r⟩
 ·exact x a u r
 ·obtain⟨_,q⟩:=x a _ r
  exact q
def EI:Option HO→Prop
 |some (.lst _)=>True
 |some (.dK _)=>True
 |some (.dT _)=>True
 |some (.set _ _)=>True
 |some (.ins _ _ _)=>True
 |some (.ext _)=>True
 |_=>False
section
variable{P:Program}{w:World}{H:Hp}{h h':Heap}{x e:Addr}{o':HO}
theorem HOk.write(ok:HOk P w H h)(mu:EI (H x))(he:e=x∨H e=some (.own x))(k:∀b u,b≠e→h.get? b=some u→h'.get? b=some u)(xn:∃u,h'.get? e=some u)
 (new:ObjOk P w (upd H x o') h' x o'):HOk P w (upd H x o') h':=fun b u q=>by
 have FP:∀c y,H c=some (.own y)→c≠x:=fun c y r z=>by subst z;rw[r] at mu;exact mu
 have IB:∀c xs,H c=some (.tup xs)→c≠x:=fun c xs r z=>by subst z;rw[r] at mu;exact mu
 by_cases hb:b=x
 ·subst hb;rw[aF] at q;cases q;exact new
 ·rw[av hb] at q
  by_cases CM:b=e
  ·have q':H b=some (.own x):=by
    rcases he with z | z
    ·exact absurd (CM.trans z) hb
    ·rw[CM];exact z
   rw[q] at q';cases q'
   obtain⟨v,hv⟩:=xn
   exact⟨v,by rw[CM];exact hv⟩
  ·refine(ok b u q).stay (fun c v hc r=>k c v ?_ r) (fun c r=>by rw[av (FP c b r)];exact r) fun c xs r=>by rw[av (IB c xs r)];exact r
   rcases hc with rfl | hc
   ·exact CM
   ·rintro rfl
    rcases he with z | z
    ·exact FP c b hc z
    ·rw[hc] at z;cases z;exact hb rfl
end
structure Un (fs ex:List Addr) (H H':Hp) (h h':Heap):Prop where
 keep:∀b o,h.get? b=some o→H b=none→b∉fs→b∉ex→h'.get? b=some o
 slot:∀b o,h.get? b=some o→H b=none→b∈fs→b∉ex→∃sl,h'.get? b=some {o with slots:=sl}
 free:∀b o,h.get? b=some o→H b=none→b∉ex→H' b=none
 there:∀b o,h.get? b=some o→b∉ex→∃o',h'.get? b=some o'
 tups:∀b xs,H b=some (.tup xs)→H' b=some (.tup xs)
 frzs:∀b o u,H b=some (.frz o u)→H' b=some (.frz o u)
 tbls:∀b ps,H b=some (.tbl ps)→∃more,H' b=some (.tbl (ps++more))
section
variable{fs Hl ex tq:List Addr}{H H1 H2:Hp}{h h1 h2 h':Heap}{a x e:Addr}{o:HO}
theorem Un.any(u:Un fs ex H H1 h h1){b:Addr}{ob:Obj}(q:h.get? b=some ob)(n:H b=none)(hx:b∉ex):∃sl,h1.get? b=some {ob with slots:=sl}:=by
 by_cases hb:b∈fs
 ·exact u.slot b ob q n hb hx
 ·exact⟨ob.slots,u.keep b ob q n hb hx⟩
theorem Un.trans(a:Un fs ex H H1 h h1)(b:Un fs ex H1 H2 h1 h2):Un fs ex H H2 h h2 where
 keep:=fun c ob q n hc hx=>b.keep c ob (a.keep c ob q n hc hx) (a.free c ob q n hx) hc hx
 slot:=fun c ob q n hc hx=>by
  obtain⟨sl,e1⟩:=a.slot c ob q n hc hx
  obtain⟨Ei,e2⟩:=b.slot c _ e1 (a.free c ob q n hx) hc hx
  exact⟨Ei,e2⟩
 free:=fun c ob q n hx=>by
  obtain⟨o',e1⟩:=a.there c ob q hx
  exact b.free c o' e1 (a.free c ob q n hx) hx
 there:=fun c ob q hx=>by
  obtain⟨o',e1⟩:=a.there c ob q hx
  exact b.there c o' e1 hx
 tups:=fun c xs q=>b.tups c xs (a.tups c xs q)
 frzs:=fun c ob xs q=>b.frzs c ob xs (a.frzs c ob xs q)
 tbls:=fun c ps q=>by
  obtain⟨m1,e1⟩:=a.tbls c ps q
  obtain⟨m2,e2⟩:=b.tbls c _ e1
  exact⟨m1++m2,by rw[e2,Array.append_assoc]⟩
theorem Un.kept(k:∀b u,h.get? b=some u→h'.get? b=some u):Un fs ex H H h h':=
 ⟨fun b ob q _ _ _=>k b ob q,fun b ob q _ _ _=>⟨ob.slots,k b ob q⟩,fun _ _ _ n _=>n,fun b ob q _=>⟨ob,k b ob q⟩,fun _ _ q=>q,fun _ _ _ q=>q,fun _ ps q=>⟨#[],by rw[q];simp⟩⟩
theorem Un.refl:Un fs ex H H h h:=Un.kept fun _ _ q=>q
theorem Un.laid(k:∀b u,h.get? b=some u→h'.get? b=some u)(hp:h.objs.size≤a)(hn:H a=none):Un fs ex H (upd H a o) h h' where
 keep:=fun b u q _ _ _=>k b u q
 slot:=fun b u q _ _ _=>⟨u.slots,k b u q⟩
 free:=fun b u q n _=>by rw[av (Nat.ne_of_lt (Nat.lt_of_lt_of_le (Heap.lt_size q) hp))];exact n
 there:=fun b u q _=>⟨u,k b u q⟩
 tups:=fun b xs q=>by rw[av (aV q hn)];exact q
 frzs:=fun b u xs q=>by rw[av (aV q hn)];exact q
 tbls:=fun b ps q=>⟨#[],by rw[av (aV q hn),q];simp⟩
theorem Un.write(mu:EI (H x))(he:e=x∨H e=some (.own x))(k:∀b u,b≠e→h.get? b=some u→h'.get? b=some u)(xn:∃u,h'.get? e=some u):Un fs ex H (upd H x o) h h':=by
 have hx:∀b,H b=none→b≠x:=fun b n z=>by subst z;rw[n] at mu;exact mu
 have hb:∀b,H b=none→b≠e:=fun b n z=>by
  subst z
  rcases he with r | r
  ·exact hx b n r
  ·rw[n] at r;cases r
 have hm:∀b u,H b=some u→¬EI (some u)→b≠x:=fun b u q nm z=>by subst z;rw[q] at mu;exact nm mu
 refine⟨fun b u q n _ _=>k b u (hb b n) q,fun b u q n _ _=>⟨u.slots,k b u (hb b n) q⟩,fun b u q n _=>by rw[av (hx b n)];exact n,fun b u q _=>?_,
  fun b xs q=>by rw[av (hm b _ q fun z=>z)];exact q,fun b u xs q=>by rw[av (hm b _ q fun z=>z)];exact q,fun b ps q=>⟨#[],by rw[av (hm b _ q fun z=>z),q];simp⟩⟩
 by_cases CM:b=e
 ·subst CM;exact xn
 ·exact⟨u,k b u CM q⟩
theorem Un.mono(u:Un fs ex H H1 h h1)(hs:∀b∈fs,b∈Hl)(hx:∀b∈ex,b∈tq):Un Hl tq H H1 h h1:=
 ⟨fun b ob q n hb he=>u.keep b ob q n (fun z=>hb (hs b z)) fun z=>he (hx b z),fun _ _ q n _ he=>u.any q n fun z=>he (hx _ z),fun b ob q n he=>u.free b ob q n fun z=>he (hx b z),fun b ob q he=>u.there b ob q fun z=>he (hx b z),u.tups,u.frzs,u.tbls⟩
end
def G5(h:Heap)(H:Hp):List Addr:=(List.range h.objs.size).filter fun a=>(H a).isSome
def pG(h:Heap)(H:Hp):Heap:=PySem.W.hideAll h (G5 h H)
theorem v8(h:Heap)(H:Hp):(pG h H).objs.size=h.objs.size:=PySem.W.hideAll_size _ _
theorem yh{h:Heap}{H:Hp}{b:Addr}{o:Obj}(e:h.get? b=some o)(n:H b=none):(pG h H).get? b=some o:=
 PySem.W.hideAll_get _ e fun hm=>by
  have q:(H b).isSome=true:=(List.mem_filter.mp hm).2
  rw[n] at q;simp at q
theorem AU{h:Heap}{H:Hp}{b:Addr}{o:Obj}(e:(pG h H).get? b=some o):h.get? b=some o∧H b=none:=by
 have e':h.get? b=some o:=PySem.W.of_hideAll (G5 h H) e
 refine⟨e',?_⟩
 cases q:H b with
 |none=>rfl
 |some x=>
  have hm:b∈G5 h H:=List.mem_filter.mpr ⟨List.mem_range.mpr (Heap.lt_size e'),by simp[q]⟩
  have z:(pG h H).get? b=none:=PySem.W.hideAll_none (G5 h H) hm
  rw[z] at e;cases e
def Ab(g h:Heap)(L:Addr):List (Addr×Obj):=(List.range h.objs.size).filterMap fun a=>if a=L∨(g.get? a).isSome=true then none else(h.get? a).map fun o=>(a,o)
def rest(g h:Heap)(L d:Addr):List (Addr×Obj):=(Ab g h L).filter fun p=>decide (p.1≠d)
structure Mod (K:W.Frag) (mg:Str→Option Value) (base:Heap):Prop where
 kin:K.In base
 glob:base.Ns mainGlobals mg
 blt:∃mb,base.Ns builtinsNs mb∧∀x:Str,x≠"__name__"→mb x=bootBuiltins x
 nolimit:base.NoLimit
structure Cx where
 prog:Program
 w:World
 K:W.Frag
 mg:Str→Option Value
 base:Heap
 A:Around
 N:List Str
 s₀:Shared
 H₀:Hp
 env:Env
 outer:List Env
 stack:List Env
 ex:List Addr
 fn:Str→Bool
 calm:Bool
 pn:List (Addr×Obj)
 xe:Value→Shared→Prop
def kS(l:List Env):List Addr:=l.filterMap (·.frame)
abbrev Cx.fs(X:Cx):List Addr:=kS X.outer
def He(sc:Scope)(x:Str):Prop:=sc.names.lookup x=some .local∨sc.names.lookup x=some .cell∨sc.names.lookup x=some .free
def Loc(sc:Scope)(x:Str):Prop:=sc.names.lookup x=some .local∨sc.names.lookup x=some .cell
def Look(env:Env)(h:Heap)(m:Str→Option Value)(x:Str)(u:Value):Prop:=
 (env.kindOf x=some .local∧m x=some u)∨((env.kindOf x=some .cell∨env.kindOf x=some .free)∧∃c,env.cells.lookup x=some c∧h.IsCell c (some u))
structure Cx.Ok (X:Cx):Prop where
 mod:Mod X.K X.mg X.base
 kind:X.env.scope.kind= .function
 glob:X.env.globals=mainGlobals
 blt:X.env.builtins=builtinsNs
 above:X.s₀.heap.objs.size≤X.env.locals
 inj:∀x y c,X.env.cells.lookup x=some c→X.env.cells.lookup y=some c→x=y
 has:∀x,(X.env.kindOf x=some .cell∨X.env.kindOf x=some .free)→∃c,X.env.cells.lookup x=some c
 cab:∀x c,X.fn x=true→X.env.cells.lookup x=some c→X.s₀.heap.objs.size≤c
 hd:X.calm=true→X.A.handled=none
 frames:X.A.frames=some X.stack
 stk:X.stack=X.outer∨(X.stack=X.env::X.outer∧X.env.frame=some X.env.locals)
 exf:∀b∈X.ex,b≠X.env.locals∧∀x c,X.env.cells.lookup x=some c→c≠b
 bs:∀b o,X.base.get? b=some o→X.s₀.heap.get? b=some o∧X.H₀ b=none
 bsz:X.base.objs.size≤X.s₀.heap.objs.size
 noex:∀b o,X.base.get? b=some o→b∉X.ex
 exfs:∀b∈X.ex,b∉X.fs
 funs:X.s₀.heap.FunFrames X.base X.outer
 frf:∀b∈X.fs,X.H₀ b=none
structure Inv (X:Cx) (pins:List (Addr×Obj)) (σ:List (Option V)) (H:Hp) (s:Shared):Prop where
 ok:X.Ok
 os:s.os=X.s₀.os
 bare:AllBare s.gens
 base:Un X.fs X.ex X.H₀ H X.s₀.heap s.heap
 loc:∃m,s.heap.Ns X.env.locals m∧∀(i:Nat) (x:Str) (v:V),X.N[i]? =some x→σ[i]? =some (some v)→He X.env.scope x→∃u,RelV v u∧Look X.env s.heap m x u
 cell:∀x c,X.env.cells.lookup x=some c→∃v,s.heap.IsCell c v
 free:H X.env.locals=none
 freeC:∀x c,X.env.cells.lookup x=some c→H c=none
 pin:∀p∈X.pn++pins,s.heap.get? p.1=some p.2∧H p.1=none∧p.1≠X.env.locals∧p.1∉X.fs∧∀v,p.2.data≠ .cell v
 hok:HOk X.prog X.w H s.heap
 len:σ.length=X.N.length
section
variable{X:Cx}{pins:List (Addr×Obj)}{σ:List (Option V)}{H H':Hp}{s:Shared}{h':Heap}
theorem Cx.Ok.nofr(ok:X.Ok){b:Addr}{o:Obj}(e:X.base.get? b=some o):b∉X.fs:=fun hb=>by
 have:=(ok.funs.mem hb).1
 rw[e] at this;cases this
theorem Inv.bs(I:Inv X pins σ H s):∀b o,X.base.get? b=some o→s.heap.get? b=some o∧H b=none:=fun b o e=>
 ⟨I.base.keep b o (I.ok.bs b o e).1 (I.ok.bs b o e).2 (I.ok.nofr e) (I.ok.noex b o e),I.base.free b o (I.ok.bs b o e).1 (I.ok.bs b o e).2 (I.ok.noex b o e)⟩
theorem Inv.bk(I:Inv X pins σ H s):∀b o,X.base.get? b=some o→s.heap.get? b=some o:=fun b o e=>(I.bs b o e).1
theorem Inv.mod(I:Inv X pins σ H s):Mod X.K X.mg X.base:=I.ok.mod
theorem Inv.kIn(I:Inv X pins σ H s):X.K.In s.heap:=I.ok.mod.kin.keeps I.bk
theorem Inv.nolimit(I:Inv X pins σ H s):s.heap.NoLimit:=I.ok.mod.nolimit.keeps I.bk
theorem Inv.lt(I:Inv X pins σ H s):X.env.locals<s.heap.objs.size:=let ⟨_,hn,_⟩:=I.loc;hn.lt
theorem Inv.sz(I:Inv X pins σ H s):X.s₀.heap.objs.size≤s.heap.objs.size:=Nat.le_trans I.ok.above (Nat.le_of_lt I.lt)
theorem Inv.nofs(I:Inv X pins σ H s){a:Addr}(h:s.heap.objs.size≤a):a∉X.fs:=fun hb=>by
 obtain⟨_,o,ho,_⟩:=I.ok.funs.mem hb
 exact absurd (Nat.lt_of_lt_of_le (Heap.lt_size ho) (Nat.le_trans I.sz h)) (Nat.lt_irrefl _)
theorem Inv.cne(I:Inv X pins σ H s):∀x c,X.env.cells.lookup x=some c→c≠X.env.locals:=fun x c e z=>by
 obtain⟨v,o,ho,hd⟩:=I.cell x c e
 obtain⟨m,⟨o',es,ep,nV,sR,_⟩,_⟩:=I.loc
 rw[z,nV] at ho;cases ho;rw[sR] at hd;cases hd
theorem Inv.funs(I:Inv X pins σ H s):s.heap.FunFrames X.base X.outer:=by
 have all:∀(l:List Env),(∀b∈kS l,b∈X.fs)→X.s₀.heap.FunFrames X.base l→s.heap.FunFrames X.base l:=by
  intro l
  induction l with
  |nil=>intro _ _;trivial
  |cons env r ih=>
   intro hs hl
   obtain⟨hk,⟨L,o,hf,hn,ho,hd⟩,hr⟩:=hl
   have hL:L∈X.fs:=hs L (by unfold kS;rw[List.filterMap_cons,hf];exact List.mem_cons_self)
   obtain⟨sl,e⟩:=I.base.slot L o ho (I.ok.frf L hL) hL fun z=>I.ok.exfs L z hL
   exact⟨hk,⟨L,_,hf,hn,e,hd⟩,ih (fun b hb=>hs b (by unfold kS;rw[List.filterMap_cons,hf];exact List.mem_cons_of_mem _ hb)) hr⟩
 exact all X.outer (fun _ hb=>hb) I.ok.funs
theorem Inv.stack(I:Inv X pins σ H s):s.heap.FunFrames X.base X.stack:=by
 rcases I.ok.stk with e | ⟨e,hf⟩
 ·rw[e];exact I.funs
 ·rw[e]
  obtain⟨m,hn,_⟩:=I.loc
  refine .cons (by rw[I.ok.kind];decide) hf hn ?_ I.funs
  exact Heap.get?_none_of_le (Nat.le_trans I.ok.bsz I.ok.above)
theorem Inv.stkSub(I:Inv X pins σ H s):∀b∈kS X.stack,b∈X.env.locals::X.fs:=fun b hb=>by
 rcases I.ok.stk with e | ⟨e,hf⟩
 ·rw[e] at hb;exact List.mem_cons_of_mem _ hb
 ·rw[e] at hb
  unfold kS at hb
  rw[List.filterMap_cons,hf] at hb
  exact hb
theorem Inv.stkFree(I:Inv X pins σ H s):∀b∈kS X.stack,H b=none:=fun b hb=>by
 rcases List.mem_cons.mp (I.stkSub b hb) with e | hb
 ·rw[e];exact I.free
 ·obtain⟨_,o,ho,_⟩:=I.ok.funs.mem hb
  exact I.base.free b o ho (I.ok.frf b hb) fun z=>I.ok.exfs b z hb
theorem Inv.step{g':Array GenState}{t':Nat}{d':Drawn}{ch:List Addr}(I:Inv X pins σ H s)
 (z8:∀b∈ch,(b∈X.ex∨X.s₀.heap.objs.size≤b)∧b≠X.env.locals∧(∀x c,X.env.cells.lookup x=some c→c≠b)∧∀p∈X.pn++pins,p.1≠b)
 (keep:∀b o,b≠X.env.locals→b∉X.fs→b∉ch→s.heap.get? b=some o→H b=none→h'.get? b=some o)
 (slot:∀b o,b≠X.env.locals→b∈X.fs→b∉ch→s.heap.get? b=some o→H b=none→∃sl,h'.get? b=some {o with slots:=sl})(free:∀b o,b∉ch→s.heap.get? b=some o→H b=none→H' b=none)
 (there:∀b o,b∉ch→s.heap.get? b=some o→∃o',h'.get? b=some o')
 (tups:∀b xs,H b=some (.tup xs)→H' b=some (.tup xs))(frzs:∀b o u,H b=some (.frz o u)→H' b=some (.frz o u))(tbls:∀b ps,H b=some (.tbl ps)→∃more,H' b=some (.tbl (ps++more)))
 (ns:∀m,s.heap.Ns X.env.locals m→h'.Ns X.env.locals m)(hok:HOk X.prog X.w H' h')(hg:AllBare g'):
 Inv X pins σ H' {s with heap:=h',gens:=g',drawn:=d',toks:=t'}:=by
 have J5:∀b o,X.s₀.heap.get? b=some o→b≠X.env.locals:=fun b o e=>Nat.ne_of_lt (Nat.lt_of_lt_of_le (Heap.lt_size e) I.ok.above)
 have G0:∀b o,X.s₀.heap.get? b=some o→b∉X.ex→b∉ch:=fun b o e hx hb=>by
  rcases(z8 b hb).1 with z | z
  ·exact hx z
  ·exact absurd (Nat.lt_of_lt_of_le (Heap.lt_size e) z) (Nat.lt_irrefl _)
 have cellK:∀x c,X.env.cells.lookup x=some c→∀v,s.heap.IsCell c v→h'.IsCell c v:=fun x c e v ⟨o,ho,hd⟩=>by
  have FN:c∉ch:=fun z=>(z8 c z).2.2.1 x c e rfl
  by_cases hc:c∈X.fs
  ·obtain⟨sl,q⟩:=slot c o (I.cne x c e) hc FN ho (I.freeC x c e)
   exact⟨_,q,hd⟩
  ·exact⟨o,keep c o (I.cne x c e) hc FN ho (I.freeC x c e),hd⟩
 refine⟨I.ok,I.os,hg,⟨fun b o e n hb hx=>?_,fun b o e n hb hx=>?_,fun b o e n hx=>?_,fun b o e hx=>?_,fun b xs e=>tups b xs (I.base.tups b xs e),fun b o xs e=>frzs b o xs (I.base.frzs b o xs e),fun b ps e=>?_⟩,?_,fun x c e=>?_,?_,fun x c e=>?_,fun p hp=>?_,hok,I.len⟩
 ·exact keep b o (J5 b o e) hb (G0 b o e hx) (I.base.keep b o e n hb hx) (I.base.free b o e n hx)
 ·obtain⟨sl,e1⟩:=I.base.slot b o e n hb hx
  obtain⟨Ei,e2⟩:=slot b _ (J5 b o e) hb (G0 b o e hx) e1 (I.base.free b o e n hx)
  exact⟨Ei,e2⟩
 ·obtain⟨o',e1⟩:=I.base.there b o e hx
  exact free b o' (G0 b o e hx) e1 (I.base.free b o e n hx)
 ·obtain⟨o',e1⟩:=I.base.there b o e hx
  exact there b o' (G0 b o e hx) e1
 ·obtain⟨m1,e1⟩:=I.base.tbls b ps e
  obtain⟨m2,e2⟩:=tbls b _ e1
  exact⟨m1++m2,by rw[e2,Array.append_assoc]⟩
 ·obtain⟨m,hn,hl⟩:=I.loc
  refine⟨m,ns m hn,fun i x v e1 e2 e3=>?_⟩
  obtain⟨u,r,l⟩:=hl i x v e1 e2 e3
  refine⟨u,r,?_⟩
  rcases l with l | ⟨k,c,e,z⟩
  ·exact .inl l
  ·exact .inr ⟨k,c,e,cellK x c e _ z⟩
 ·obtain⟨v,z⟩:=I.cell x c e
  exact⟨v,cellK x c e v z⟩
 ·obtain⟨m,⟨o,_,_,ho,_⟩,_⟩:=I.loc
  exact free _ o (fun z=>(z8 _ z).2.1 rfl) ho I.free
 ·obtain⟨v,o,ho,hd⟩:=I.cell x c e
  exact free c o (fun z=>(z8 c z).2.2.1 x c e rfl) ho (I.freeC x c e)
 ·obtain⟨e,n,ne,nf,d⟩:=I.pin p hp
  have FN:p.1∉ch:=fun z=>(z8 p.1 z).2.2.2 p hp rfl
  exact⟨keep p.1 p.2 ne nf FN e n,free p.1 p.2 FN e n,ne,nf,d⟩
theorem Inv.un{t':Nat}(I:Inv X pins σ H s)(u:Un X.fs [] H H' s.heap h')(hok:HOk X.prog X.w H' h'):Inv X pins σ H' {s with heap:=h',toks:=t'}:=by
 obtain⟨m,⟨o,es,ep,ho,r⟩,_⟩:=id I.loc
 obtain⟨sl,hL⟩:=u.any ho I.free (by simp)
 exact I.step (g':=s.gens) (d':=s.drawn) (ch:=[]) (fun _ z=>nomatch z) (fun b o _ hb _ e n=>u.keep b o e n hb (by simp)) (fun b o _ hb _ e n=>u.slot b o e n hb (by simp)) (fun b o _ e n=>u.free b o e n (by simp)) (fun b o _ e=>u.there b o e (by simp)) u.tups u.frzs u.tbls (fun m' hm=>by
  obtain⟨o',Ex,Aj,nV,r'⟩:=hm
  rw[ho] at nV;cases nV
  exact⟨_,Ex,Aj,hL,r'⟩) hok I.bare
theorem Inv.call{g':Array GenState}{t':Nat}{d':Drawn}{ch:List Addr}(I:Inv X pins σ H s)(u:Un (kS X.stack) ch H H' s.heap h')(hok:HOk X.prog X.w H' h')(hg:AllBare g')
 (z8:∀b∈ch,(b∈X.ex∨X.s₀.heap.objs.size≤b)∧b≠X.env.locals∧(∀x c,X.env.cells.lookup x=some c→c≠b)∧∀p∈X.pn++pins,p.1≠b):
 Inv X pins σ H' {s with heap:=h',gens:=g',drawn:=d',toks:=t'}:=by
 obtain⟨m,⟨o,es,ep,ho,r⟩,_⟩:=id I.loc
 obtain⟨sl,hL⟩:=u.any ho I.free fun z=>(z8 _ z).2.1 rfl
 exact I.step (ch:=ch) z8 (fun b o hL hb hc e n=>u.keep b o e n (fun z=>(List.mem_cons.mp (I.stkSub b z)).elim hL hb) hc) (fun b o _ _ hc e n=>u.any e n hc) (fun b o hc e n=>u.free b o e n hc) (fun b o hc e=>u.there b o e hc) u.tups u.frzs u.tbls (fun m' hm=>by
  obtain⟨o',Ex,Aj,nV,r'⟩:=hm
  rw[ho] at nV;cases nV
  exact⟨_,Ex,Aj,hL,r'⟩) hok hg
theorem Inv.turned{t':Nat}{it:Addr}(I:Inv X pins σ H s)(k:∀b o,b≠it→s.heap.get? b=some o→h'.get? b=some o)(hn:H it=none)(hL:it≠X.env.locals)
 (h1:it∈X.ex∨X.s₀.heap.objs.size≤it)(h2:∀x c,X.env.cells.lookup x=some c→c≠it)(h3:∀p∈X.pn++pins,p.1≠it):Inv X pins σ H {s with heap:=h',toks:=t'}:=by
 have Cb:∀b u,H b=some u→b≠it:=fun b u e z=>by rw[z,hn] at e;cases e
 refine I.step (g':=s.gens) (d':=s.drawn) (ch:=[it]) (fun b hb=>?_) (fun b o _ _ hc e _=>k b o (fun z=>hc (by simp[z])) e) (fun b o _ _ hc e _=>⟨o.slots,k b o (fun z=>hc (by simp[z])) e⟩) (fun _ _ _ _ n=>n)
  (fun b o hc e=>⟨o,k b o (fun z=>hc (by simp[z])) e⟩) (fun _ _ e=>e) (fun _ _ _ e=>e) (fun b ps e=>⟨#[],by rw[e];simp⟩) (fun m hm=>?_) (fun b u e=>?_) I.bare
 ·have e:b=it:=by simpa using hb
  subst e
  exact⟨h1,hL,h2,h3⟩
 ·obtain⟨o,es,ep,ho,r⟩:=hm
  exact⟨o,es,ep,k _ o (Ne.symm hL) ho,r⟩
 ·refine(I.hok b u e).stay (fun c v hc q=>k c v ?_ q) (fun _ q=>q) fun _ _ q=>q
  rcases hc with z | z
  ·rw[z];exact Cb b u e
  ·exact Cb c _ z
theorem Inv.tok(I:Inv X pins σ H s)(t:Nat):Inv X pins σ H {s with toks:=t}:=I.un (h':=s.heap) (t':=t) Un.refl I.hok
theorem Inv.kept{t':Nat}(I:Inv X pins σ H s)(k:∀b u,s.heap.get? b=some u→h'.get? b=some u):Inv X pins σ H {s with heap:=h',toks:=t'}:=I.un (Un.kept k) (I.hok.kept k)
theorem Inv.laid{a:Addr}{o:HO}{t':Nat}(I:Inv X pins σ H s)(k:∀b u,s.heap.get? b=some u→h'.get? b=some u)(hp:s.heap.objs.size≤a)(new:ObjOk X.prog X.w (upd H a o) h' a o):
 Inv X pins σ (upd H a o) {s with heap:=h',toks:=t'}:=I.un (Un.laid k hp (I.hok.fresh hp)) (I.hok.laid k hp new)
theorem Inv.write{x e:Addr}{o:HO}{t':Nat}(I:Inv X pins σ H s)(mu:EI (H x))(he:e=x∨H e=some (.own x))(k:∀b u,b≠e→s.heap.get? b=some u→h'.get? b=some u)(xn:∃u,h'.get? e=some u)
 (new:ObjOk X.prog X.w (upd H x o) h' x o):Inv X pins σ (upd H x o) {s with heap:=h',toks:=t'}:=I.un (Un.write mu he k xn) (I.hok.write mu he k xn new)
theorem Inv.pins_of{Ci:List (Addr×Obj)}(I:Inv X pins σ H s)(h:∀p∈Ci,s.heap.get? p.1=some p.2∧H p.1=none∧p.1≠X.env.locals∧p.1∉X.fs∧∀v,p.2.data≠ .cell v):Inv X Ci σ H s:=
 ⟨I.ok,I.os,I.bare,I.base,I.loc,I.cell,I.free,I.freeC,fun p hp=>(List.mem_append.mp hp).elim (fun z=>I.pin p (List.mem_append_left _ z)) (h p),I.hok,I.len⟩
theorem rF{N:List Str}(hN:N.Nodup){i j:Nat}{x:Str}(a:N[i]? =some x)(b:N[j]? =some x):i=j:=by
 obtain⟨h1,e1⟩:=List.getElem?_eq_some_iff.mp a
 obtain⟨h2,e2⟩:=List.getElem?_eq_some_iff.mp b
 exact(List.getElem_inj hN).mp (e1.trans e2.symm)
theorem oZ{M:Model}{A:Around}{E:Value→Shared→Prop}{i:Nat}{x:Str}{v:V}{u:Value}{Q:Unit→Shared→Prop}(I:Inv X pins σ H s)(hN:X.N.Nodup)(hi:X.N[i]? =some x)(hx:Loc X.env.scope x)(r:RelV v u)
 (h:∀s',Inv X pins (σ.set i (some v)) H s'→(∃a,Heap.SameBut a s.heap s'.heap∧(a=X.env.locals∨X.env.cells.lookup x=some a))→Q () s')(hf:X.fn x=true∨X.env.scope.names.lookup x=some .local:=by first | exact .inl rfl | exact .inr rfl | assumption):wpAny M A (storeName X.env x u) Q E s:=by
 obtain⟨m,hn,hl⟩:=id I.loc
 have Hw:(X.env.scope.kind== .class||(X.env.scope.kind== .module&&X.env.locals !=X.env.globals))=false:=by rw[I.ok.kind];rfl
 have JK:i<σ.length:=by rw[I.len];exact(List.getElem?_eq_some_iff.mp hi).1
 have cne:=I.cne
 have tracked:∀{a:Addr}{h':Heap},(∃o,s.heap.get? a=some o∧H a=none)→Heap.SameBut a s.heap h'→HOk X.prog X.w H h':=fun {a h'} ha hs b ob e=>by
  obtain⟨_,_,B4⟩:=ha
  refine(I.hok b ob e).stay (fun c w' hc q=>(hs.2 c ?_).trans q) (fun _ q=>q) fun _ _ q=>q
  rintro rfl
  rcases hc with rfl | hc
  ·rw[B4] at e;cases e
  ·rw[B4] at hc;cases hc
 rcases hx with hk | hk
 ·refine wpAny_storeName_local hk hn (fun h' Li hs=>?_) Hw
  obtain⟨oL,_,_,C0,_⟩:=id hn
  refine h _ ⟨I.ok,I.os,I.bare,⟨fun b o e n hb hx=>?_,fun b o e n hb hx=>?_,I.base.free,fun b o e hx=>?_,I.base.tups,I.base.frzs,I.base.tbls⟩,⟨_,Li,fun j y v' e1 e2 e3=>?_⟩,fun y c e=>?_,I.free,I.freeC,fun p hp=>?_,tracked ⟨oL,C0,I.free⟩ hs,by simpa using I.len⟩ ⟨_,hs, .inl rfl⟩
  ·exact(hs.2 b (Nat.ne_of_lt (Nat.lt_of_lt_of_le (Heap.lt_size e) I.ok.above))).trans (I.base.keep b o e n hb hx)
  ·obtain⟨sl,e1⟩:=I.base.slot b o e n hb hx
   exact⟨sl,(hs.2 b (Nat.ne_of_lt (Nat.lt_of_lt_of_le (Heap.lt_size e) I.ok.above))).trans e1⟩
  ·obtain⟨o',e1⟩:=I.base.there b o e hx
   exact⟨o',(hs.2 b (Nat.ne_of_lt (Nat.lt_of_lt_of_le (Heap.lt_size e) I.ok.above))).trans e1⟩
  ·by_cases hj:j=i
   ·subst hj
    rw[hi] at e1;cases e1
    rw[List.getElem?_set_self JK] at e2
    cases e2
    exact⟨u,r, .inl ⟨hk,by simp⟩⟩
   ·rw[List.getElem?_set_ne (Ne.symm hj)] at e2
    obtain⟨u',r',q⟩:=hl j y v' e1 e2 e3
    refine⟨u',r',?_⟩
    rcases q with⟨k,e⟩ | ⟨k,c,e,z⟩
    ·refine .inl ⟨k,?_⟩
     have:y≠x:=fun e=>hj (rF hN e1 (e▸hi))
     simp[this,e]
    ·exact .inr ⟨k,c,e,z.sameBut hs (cne y c e)⟩
  ·obtain⟨w',z⟩:=I.cell y c e
   exact⟨w',z.sameBut hs (cne y c e)⟩
  ·obtain⟨e,n,ne,nf,d⟩:=I.pin p hp
   exact⟨(hs.2 p.1 ne).trans e,n,ne,nf,d⟩
 ·have HA:X.fn x=true:=by
   rcases hf with z | z
   ·exact z
   ·rw[z] at hk;cases hk
  obtain⟨c,hc⟩:=I.ok.has x (.inl hk)
  obtain⟨w',z⟩:=I.cell x c hc
  refine wpAny_storeName_cell I.ok.kind hk hc z (fun h' BZ hs=>?_)
  obtain⟨oc,GU,HS⟩:=id z
  refine h {s with heap:=h'} ⟨I.ok,I.os,I.bare,⟨fun b o e n hb hx=>?_,fun b o e n hb hx=>?_,I.base.free,fun b o e hx=>?_,I.base.tups,I.base.frzs,I.base.tbls⟩,⟨m,hn.sameBut hs (Ne.symm (cne x c hc)),fun j y v' e1 e2 e3=>?_⟩,fun y c' e=>?_,I.free,I.freeC,fun p hp=>?_,tracked ⟨oc,GU,I.freeC x c hc⟩ hs,by simpa using I.len⟩ ⟨c,hs, .inr hc⟩
  ·exact(hs.2 b (Nat.ne_of_lt (Nat.lt_of_lt_of_le (Heap.lt_size e) (I.ok.cab x c HA hc)))).trans (I.base.keep b o e n hb hx)
  ·obtain⟨sl,e1⟩:=I.base.slot b o e n hb hx
   exact⟨sl,(hs.2 b (Nat.ne_of_lt (Nat.lt_of_lt_of_le (Heap.lt_size e) (I.ok.cab x c HA hc)))).trans e1⟩
  ·obtain⟨o',e1⟩:=I.base.there b o e hx
   exact⟨o',(hs.2 b (Nat.ne_of_lt (Nat.lt_of_lt_of_le (Heap.lt_size e) (I.ok.cab x c HA hc)))).trans e1⟩
  ·by_cases hj:j=i
   ·subst hj
    rw[hi] at e1;cases e1
    rw[List.getElem?_set_self JK] at e2
    cases e2
    exact⟨u,r, .inr ⟨.inl hk,c,hc,BZ⟩⟩
   ·rw[List.getElem?_set_ne (Ne.symm hj)] at e2
    obtain⟨u',r',q⟩:=hl j y v' e1 e2 e3
    refine⟨u',r',?_⟩
    rcases q with q | ⟨k,c',e,z'⟩
    ·exact .inl q
    ·refine .inr ⟨k,c',e,z'.sameBut hs ?_⟩
     rintro rfl
     exact hj (rF hN e1 (I.ok.inj _ _ _ e hc▸hi))
  ·by_cases GP:c'=c
   ·subst GP;exact⟨_,BZ⟩
   ·obtain⟨w2,z2⟩:=I.cell y c' e
    exact⟨w2,z2.sameBut hs GP⟩
  ·obtain⟨e,n,ne,nf,d⟩:=I.pin p hp
   refine⟨(hs.2 p.1 ?_).trans e,n,ne,nf,d⟩
   intro q
   rw[q,GU] at e
   have q':oc=p.2:=Option.some.inj e
   exact d w' (by rw[←q'];exact HS)
theorem sA{M:Model}{A:Around}{E:Value→Shared→Prop}{i:Nat}{x:Str}{v:V}{u:Value}{Q:Unit→Shared→Prop}(I:Inv X pins σ H s)(hN:X.N.Nodup)(hi:X.N[i]? =some x)(hx:Loc X.env.scope x)(r:RelV v u)
 (h:∀s',Inv X pins (σ.set i (some v)) H s'→Q () s')(hf:X.fn x=true∨X.env.scope.names.lookup x=some .local:=by first | exact .inl rfl | exact .inr rfl | assumption):wpAny M A (storeName X.env x u) Q E s:=
 oZ I hN hi hx r (fun s' I' _=>h s' I') hf
theorem Inv.call'{s':Shared}{ch:List Addr}(I:Inv X pins σ H s)(ho:s'.os=s.os)(u:Un (kS X.stack) ch H H' s.heap s'.heap)(hok:HOk X.prog X.w H' s'.heap)(hg:AllBare s'.gens)
 (z8:∀b∈ch,(b∈X.ex∨X.s₀.heap.objs.size≤b)∧b≠X.env.locals∧(∀x c,X.env.cells.lookup x=some c→c≠b)∧∀p∈X.pn++pins,p.1≠b):Inv X pins σ H' s':=by
 obtain⟨h',g',d',t',o'⟩:=s'
 have e:o'=s.os:=ho
 subst e
 exact I.call (g':=g') (t':=t') (d':=d') u hok hg z8
end
abbrev XK:=Value→Option Addr→Hp→Prop
abbrev St:=List (Option V)
abbrev VK:=V→Hp→Prop
abbrev TE:=St→Hp→VK→Prop
abbrev TT:=St→Hp→(Bool→Hp→Prop)→Prop
abbrev TA:=St→Hp→(List V→Hp→Prop)→Prop
structure Ends where
 nx:St→Hp→Prop
 rt:VK
 bk:St→Hp→Prop:=fun _ _=>False
 ct:St→Hp→Prop:=fun _ _=>False
abbrev TS:=Ends→St→Hp→Prop
def EP(X:Cx)(pins:List (Addr×Obj))(σ:St)(Q:VK)(u:Value)(s':Shared):Prop:=∃v H',Inv X pins σ H' s'∧RelV v u∧Q v H'
def TP(X:Cx)(pins:List (Addr×Obj))(σ:St)(Q:Bool→Hp→Prop)(b:Bool)(s':Shared):Prop:=∃H',Inv X pins σ H' s'∧Q b H'
def AP(X:Cx)(pins:List (Addr×Obj))(σ:St)(Q:List V→Hp→Prop)(us:List Value)(s':Shared):Prop:=∃vs H',Inv X pins σ H' s'∧Vals vs us∧Q vs H'
def SP(X:Cx)(pins:List (Addr×Obj))(D:Ends)(f:Flow)(s':Shared):Prop:=
 match f with
 | .next=>∃σ' H',Inv X pins σ' H' s'∧D.nx σ' H'
 | .brk=>∃σ' H',Inv X pins σ' H' s'∧D.bk σ' H'
 | .cont=>∃σ' H',Inv X pins σ' H' s'∧D.ct σ' H'
 | .ret u=>∃v σ' H',Inv X pins σ' H' s'∧RelV v u∧D.rt v H'
def PE(X:Cx)(e:Expr)(t:TE):Prop:=
 ∀(pins:List (Addr×Obj)) (s:Shared) (σ:St) (H:Hp) (Q:VK),Inv X pins σ H s→t σ H Q→wpAny (model X.prog X.w) X.A (eval e X.env) (EP X pins σ Q) X.xe s
def PT(X:Cx)(e:Expr)(t:TT):Prop:=
 ∀(pins:List (Addr×Obj)) (s:Shared) (σ:St) (H:Hp) (Q:Bool→Hp→Prop),Inv X pins σ H s→t σ H Q→wpAny (model X.prog X.w) X.A (isTrue e X.env (eval e X.env)) (TP X pins σ Q) X.xe s
def PW(X:Cx)(e:Expr)(t:TT):Prop:=
 ∀(whole:Sem Value) (pins:List (Addr×Obj)) (s:Shared) (σ:St) (H:Hp) (Q:Bool→Hp→Prop),Inv X pins σ H s→t σ H Q→wpAny (model X.prog X.w) X.A (isTrue e X.env whole) (TP X pins σ Q) X.xe s
theorem PW.pt{X:Cx}{e:Expr}{t:TT}(h:PW X e t):PT X e t:=h _
def PA(X:Cx)(es:List Expr)(t:TA):Prop:=
 ∀(pos:Pos) (pins:List (Addr×Obj)) (s:Shared) (σ:St) (H:Hp) (Q:List V→Hp→Prop),Inv X pins σ H s→t σ H Q→wpAny (model X.prog X.w) X.A (spliced (backTo pos (starEach es X.env))) (AP X pins σ Q) X.xe s
def PS(X:Cx)(st:Stmt)(t:TS):Prop:=
 ∀(pins:List (Addr×Obj)) (s:Shared) (σ:St) (H:Hp) (D:Ends),Inv X pins σ H s→t D σ H→wpAny (model X.prog X.w) X.A (exec st X.env) (SP X pins D) X.xe s
def PSs(X:Cx)(st:List Stmt)(t:TS):Prop:=
 ∀(pins:List (Addr×Obj)) (s:Shared) (σ:St) (H:Hp) (D:Ends),Inv X pins σ H s→t D σ H→wpAny (model X.prog X.w) X.A (execs st X.env) (SP X pins D) X.xe s
theorem bY{α:Type}{t:Sem α}{Q Q':α→Shared→Prop}{M:Model}{A:Around}{E:Value→Shared→Prop}{s:Shared}(h:wpAny M A t Q E s)(hQ:∀a s,Q a s→Q' a s):wpAny M A t Q' E s:=wpAny_mono h hQ fun _ _ x=>x
section
variable{X:Cx}
theorem bin{a b:Expr}{ta tb:TE}(ha:PE X a ta)(hb:PE X b tb){pins:List (Addr×Obj)}{s:Shared}{σ:St}{H:Hp}{R:V→V→Hp→Prop}(I:Inv X pins σ H s)(h:ta σ H fun x H1=>tb σ H1 fun y H2=>R x y H2)
 {α:Type}{Q:α→Shared→Prop}{f:Value→Value→Sem α}
 (hf:∀v u s2 x y H2,Inv X pins σ H2 s2→RelV x v→RelV y u→R x y H2→wpAny (model X.prog X.w) X.A (f v u) Q X.xe s2):
 wpAny (model X.prog X.w) X.A (eval a X.env) (fun v s₁=>wpAny (model X.prog X.w) X.A (eval b X.env) (fun u s₂=>wpAny (model X.prog X.w) X.A (f v u) Q X.xe s₂) X.xe s₁) X.xe s:=by
 refine bY (ha pins s σ H _ I h) fun v s1 ⟨x,H1,I1,r1,q1⟩=>?_
 refine bY (hb pins s1 σ H1 _ I1 q1) fun u s2 ⟨y,H2,I2,r2,q2⟩=>?_
 exact hf v u s2 x y H2 I2 r1 r2 q2
def mN(i:Nat):TE:=fun σ H Q=>∃v,σ[i]? =some (some v)∧Q v H
def tC(v:V):TE:=fun _ H Q=>Q v H
theorem D0{i:Nat}{x:Str}{pos:Pos}(hN:X.N[i]? =some x)(hv:He X.env.scope x)(hd:(x==("__debug__":Str))=false:=by decide)(uV:(x==("__classdict__":Str))=false:=by decide):PE X (.Name x pos) (mN i):=by
 intro pins s σ H Q I h
 obtain⟨v,e,h⟩:=h
 obtain⟨m,hn,hl⟩:=I.loc
 obtain⟨u,r,l⟩:=hl i x v hN e hv
 have fin:EP X pins σ Q u s:=⟨v,H,I,r,h⟩
 rcases l with⟨hk,hm⟩ | ⟨hk,c,hc,B1⟩
 ·exact wpAny_Name (wpAny_loadName_local I.ok.kind hk hn hm fin) hd
 ·rcases hk with hk | hk
  ·exact wpAny_Name (wpAny_loadName_cell I.ok.kind hk hc B1 fin) hd
  ·exact wpAny_Name (wpAny_loadName_free I.ok.kind hk hc B1 fin uV) hd
theorem DR{i j pos}:PE X (.Constant (.int i) j pos) (tC (.int i)):=fun _ _ _ H _ I h=>wpAny_Constant_int ⟨.int i,H,I.tok _,⟨_,rfl⟩,h⟩
theorem F4{b j pos}:PE X (.Constant (.bool b) j pos) (tC (.bl b)):=fun _ _ _ H _ I h=>Constant_bool ⟨.bl b,H,I,rfl,h⟩
theorem DU{j pos}:PE X (.Constant .none j pos) (tC .non):=fun _ _ _ H _ I h=>Constant_none ⟨.non,H,I,rfl,h⟩
theorem DX{x j pos}:PE X (.Constant (.str x) j pos) (tC (.str x)):=fun _ _ _ H _ I h=>Calls.Constant_str ⟨.str x,H,I.tok _,⟨_,rfl⟩,h⟩
def Gl(X:Cx)(x:Str):Prop:=X.env.kindOf x=some .globalImplicit
theorem u5{E:Value→Shared→Prop}{pins:List (Addr×Obj)}{s:Shared}{σ:St}{H:Hp}{x:Str}{u:Value}{pos:Pos}{Q:Value→Shared→Prop}(I:Inv X pins σ H s)(hg:Gl X x)(hm:X.mg x=some u)(h:Q u s)
 (hd:(x==("__debug__":Str))=false:=by decide):wpAny (model X.prog X.w) X.A (eval (.Name x pos) X.env) Q E s:=
 Calls.Name_function_global I.ok.kind hg (Calls.loadGlobal_global (by rw[I.ok.glob];exact I.mod.glob.keeps I.bk) hm h) hd
theorem eV{E:Value→Shared→Prop}{pins:List (Addr×Obj)}{s:Shared}{σ:St}{H:Hp}{x:Str}{u:Value}{pos:Pos}{Q:Value→Shared→Prop}(I:Inv X pins σ H s)(hg:Gl X x)(hm:X.mg x=none)(hv:bootBuiltins x=some u)(h:Q u s)
 (hn:x≠"__name__":=by decide)(hd:(x==("__debug__":Str))=false:=by decide):wpAny (model X.prog X.w) X.A (eval (.Name x pos) X.env) Q E s:=by
 obtain⟨mb,h1,h2⟩:=I.mod.blt
 exact Calls.Name_function_global I.ok.kind hg (Calls.loadGlobal_builtin (by rw[I.ok.glob];exact I.mod.glob.keeps I.bk) hm (by rw[I.ok.blt];exact h1.keeps I.bk) ((h2 x hn).trans hv) h) hd
theorem Bf{x:Str}{v:V}{u:Value}{pos:Pos}(hg:Gl X x)(hm:X.mg x=some u)(r:RelV v u)(hd:(x==("__debug__":Str))=false:=by decide):PE X (.Name x pos) (tC v):=
 fun _ _ _ H _ I h=>u5 I hg hm ⟨v,H,I,r,h⟩ hd
theorem Bb{x:Str}{v:V}{u:Value}{pos:Pos}(hg:Gl X x)(hm:X.mg x=none)(hv:bootBuiltins x=some u)(r:RelV v u)(hn:x≠"__name__":=by decide)(hd:(x==("__debug__":Str))=false:=by decide):PE X (.Name x pos) (tC v):=
 fun _ _ _ H _ I h=>eV I hg hm hv ⟨v,H,I,r,h⟩ hn hd
variable{a b:Expr}{ta tb:TE}{pos:Pos}
def PC(X:Cx)(op:CmpOp)(a b:Expr)(t:TE):Prop:=
 ∀(pins:List (Addr×Obj)) (s:Shared) (σ:St) (H:Hp) (Q:VK),Inv X pins σ H s→t σ H Q→
  wpAny (model X.prog X.w) X.A (eval a X.env) (fun v s₁=>wpAny (model X.prog X.w) X.A (eval b X.env) (fun u s₂=>wpAny (model X.prog X.w) X.A (compareOp op v u) (EP X pins σ Q) X.xe s₂) X.xe s₁) X.xe s
theorem yG(b:Expr){op:CmpOp}(h:op≠ .In)(h2:op≠ .NotIn):behindInMarks op b=false:=by
 have e1:(op==CmpOp.In)=false:=by cases op<;>first | rfl | exact absurd rfl h
 have e2:(op==CmpOp.NotIn)=false:=by cases op<;>first | rfl | exact absurd rfl h2
 cases b<;>simp[behindInMarks,e1,e2]
theorem DQ{op:CmpOp}{t:TE}(h:PC X op a b t)(h1:behindInMarks op b=false:=by first | exact yG _ (by decide) (by decide) | rfl):PE X (.Compare a [op] [b] pos) t:=fun pins s σ H Q I hw=>wpAny_Compare1 (h pins s σ H Q I hw) h1
variable{tA c0:TT}{rest:List Expr}
def LS(t u:TT):TT:=fun σ H Q=>t σ H fun c H1=>if c=true then Q true H1 else u σ H1 Q
def I9(t:TT):TT:=fun σ H Q=>t σ H fun c H1=>Q (!c) H1
theorem D8(ha:PT X a tA):PW X (.BoolOp .Or [a] pos) tA:=by
 intro wh pins s σ H Q I h
 refine isTrue_or (bY (ha pins s σ H Q I h) fun c s1 e=>?_)
 cases c with
 |false=>exact isTrue_or_nil e
 |true=>exact e
theorem F_(ha:PT X a tA)(hb:PW X (.BoolOp .Or (b::rest) pos) c0):PW X (.BoolOp .Or (a::b::rest) pos) (LS tA c0):=by
 intro wh pins s σ H Q I h
 refine isTrue_or (bY (ha pins s σ H _ I h) fun c s1 ⟨H1,I1,q1⟩=>?_)
 cases c with
 |true=>exact⟨H1,I1,q1⟩
 |false=>exact hb wh pins s1 σ H1 Q I1 q1
theorem D6(ha:PT X a tA):PT X (.UnaryOp .Not a pos) (I9 tA):=by
 intro pins s σ H Q I h
 exact isTrue_not (ha pins s σ H (fun c H1=>Q (!c) H1) I h)
def Gr(ta tb:TE):TE:=fun σ H Q=>ta σ H fun x H1=>∃c,x= .bl c∧if c=true then tb σ H1 Q else Q (.bl false) H1
def Gw(ta:TE):TE:=fun σ H Q=>ta σ H fun x H1=>∃c,x= .bl c∧Q (.bl (!c)) H1
theorem DW{op}{t:TE}(h:PE X a t):PE X (.BoolOp op [a] pos) t:=fun pins s σ H Q I hw=>BoolOp_one (h pins s σ H Q I hw)
theorem DP(ha:PE X a ta)(hb:PE X (.BoolOp .And (b::rest) pos) tb):PE X (.BoolOp .And (a::b::rest) pos) (Gr ta tb):=by
 intro pins s σ H Q I h
 refine BoolOp_and (bY (ha pins s σ H _ I h) fun v s1 ⟨x,H1,I1,r1,q1⟩=>?_)
 obtain⟨c,rfl,q1⟩:=q1
 cases r1
 refine wpAny_truthy_bool ?_
 cases c with
 |true=>exact hb pins s1 σ H1 Q I1 q1
 |false=>exact⟨.bl false,H1,I1,rfl,q1⟩
theorem DV(ha:PE X a ta):PE X (.UnaryOp .Not a pos) (Gw ta):=by
 intro pins s σ H Q I h
 refine UnaryOp_ (bY (ha pins s σ H _ I h) fun v s1 ⟨x,H1,I1,r1,q1⟩=>?_)
 obtain⟨c,rfl,q1⟩:=q1
 cases r1
 exact not_of (wpAny_truthy_bool ⟨.bl (!c),H1,I1,rfl,q1⟩)
end
def SqL(K:W.Frag)(H:Hp)(a:Addr)(xs:List V):Prop:=
 Rd H a (.lst xs)∨
  ∃(o:Obj) (aA:Array Value) (n:Nat),K.lookup a=some o∧o.cls= .type "list"∧o.dict=none∧o.data= .seq aA n∧aA.size≤sizeLine∧Vals xs aA.toList
def SqT(K:W.Frag)(H:Hp)(a:Addr)(xs:List V):Prop:=
 Rd H a (.tup xs)∨
  ∃(o:Obj) (aA:Array Value) (n:Nat),K.lookup a=some o∧o.cls= .type "tuple"∧o.data= .seq aA n∧aA.size≤sizeLine∧Vals xs aA.toList
def Hf:Value→Option V
 | .none=>some .non
 | .bool b=>some (.bl b)
 | .int i _=>some (.int i)
 | .str x _=>some (.str x)
 | .bytes b _=>some (.byt b)
 | .float b _=>some (.flt b)
 | .ref a=>some (.ref a)
 | .type n=>some (.ty n)
 |_=>none
theorem RelV.abs{x:V}{u:Value}(r:RelV x u):Hf u=some x:=by
 cases x with
 |non=>cases r;rfl
 |bl _=>cases r;rfl
 |int _=>obtain⟨t,rfl⟩:=r;rfl
 |str _=>obtain⟨t,rfl⟩:=r;rfl
 |byt _=>obtain⟨t,rfl⟩:=r;rfl
 |flt _=>obtain⟨t,rfl⟩:=r;rfl
 |ref _=>cases r;rfl
 |ty _=>cases r;rfl
theorem RelV.inj{x y:V}{u:Value}(r:RelV x u)(q:RelV y u):x=y:=Option.some.inj (r.abs.symm.trans q.abs)
theorem Vals.inj:∀{xs ys:List V}{us:List Value},Vals xs us→Vals ys us→xs=ys
 |_,_,_, .nil, .nil=>rfl
 |_,_,_, .cons r t, .cons r' t'=>by rw[r.inj r',Vals.inj t t']
section
variable{X:Cx}{pins:List (Addr×Obj)}{σ:St}{H:Hp}{s:Shared}{a:Addr}{xs ys:List V}
theorem SqL.of{K:W.Frag}(h:H a=some (.lst xs)):SqL K H a xs:= .inl (.inl h)
theorem SqT.of{K:W.Frag}(h:H a=some (.tup xs)):SqT K H a xs:= .inl (.inl h)
theorem Inv.list(I:Inv X pins σ H s)(h:SqL X.K H a xs):∃aA:List Value,Vals xs aA∧PlainL s.heap a aA.toArray∧xs.length≤sizeLine:=by
 rcases h with h | ⟨o,aA,n,hk,hc,hd,hs,hz,r⟩
 ·obtain⟨z,aA,n,r,e⟩:=h.ok I.hok
  exact⟨aA,r,⟨_,n,e,rfl,rfl,rfl⟩,z⟩
 ·refine⟨aA.toList,r,⟨o,n,I.kIn a o hk,hc,hd,by simpa using hs⟩,?_⟩
  have e:=r.length
  simp only[Array.length_toList] at e
  omega
theorem Inv.tuple(I:Inv X pins σ H s)(h:SqT X.K H a xs):∃aA:List Value,Vals xs aA∧IsTup s.heap a aA.toArray∧xs.length≤sizeLine:=by
 rcases h with h | ⟨o,aA,n,hk,hc,hs,hz,r⟩
 ·obtain⟨z,aA,r,p⟩:=h.ok I.hok
  exact⟨aA,r,p,z⟩
 ·refine⟨aA.toList,r,⟨o,I.kIn a o hk,hc,n,by simpa using hs⟩,?_⟩
  have e:=r.length
  simp only[Array.length_toList] at e
  omega
theorem Inv.list_inj(I:Inv X pins σ H s)(h:SqL X.K H a xs)(h':SqL X.K H a ys):xs=ys:=by
 obtain⟨aA,r,⟨o,n,e,_,_,d⟩,_⟩:=I.list h
 obtain⟨its',r',⟨o',n',e',_,_,d'⟩,_⟩:=I.list h'
 rw[e] at e';cases e'
 rw[d] at d'
 injection d' with d1 _
 have:aA=its':=by simpa using congrArg Array.toList d1
 subst this
 exact r.inj r'
theorem Inv.tuple_inj(I:Inv X pins σ H s)(h:SqT X.K H a xs)(h':SqT X.K H a ys):xs=ys:=by
 obtain⟨aA,r,⟨o,e,_,n,d⟩,_⟩:=I.tuple h
 obtain⟨its',r',⟨o',e',_,n',d'⟩,_⟩:=I.tuple h'
 rw[e] at e';cases e'
 rw[d] at d'
 injection d' with d1 _
 have:aA=its':=by simpa using congrArg Array.toList d1
 subst this
 exact r.inj r'
end
abbrev Cx.wish(X:Cx)(E:Value→Shared→Prop):Cx:={X with xe:=E}
abbrev Cx.nox(X:Cx):Cx:=X.wish fun _ _=>False
theorem Cx.Ok.wish{X:Cx}(ok:X.Ok)(E:Value→Shared→Prop):(X.wish E).Ok:=
 ⟨ok.mod,ok.kind,ok.glob,ok.blt,ok.above,ok.inj,ok.has,ok.cab,ok.hd,ok.frames,ok.stk,ok.exf,ok.bs,ok.bsz,ok.noex,ok.exfs,ok.funs,ok.frf⟩
theorem Cx.Ok.unwish{X:Cx}{E:Value→Shared→Prop}(ok:(X.wish E).Ok):X.Ok:=
 ⟨ok.mod,ok.kind,ok.glob,ok.blt,ok.above,ok.inj,ok.has,ok.cab,ok.hd,ok.frames,ok.stk,ok.exf,ok.bs,ok.bsz,ok.noex,ok.exfs,ok.funs,ok.frf⟩
section
variable{X:Cx}{pins:List (Addr×Obj)}{σ:St}{H:Hp}{s:Shared}{E:Value→Shared→Prop}
theorem Inv.wish(I:Inv X pins σ H s)(E:Value→Shared→Prop):Inv (X.wish E) pins σ H s:=⟨I.ok.wish E,I.os,I.bare,I.base,I.loc,I.cell,I.free,I.freeC,I.pin,I.hok,I.len⟩
theorem Inv.unwish(I:Inv (X.wish E) pins σ H s):Inv X pins σ H s:=⟨I.ok.unwish,I.os,I.bare,I.base,I.loc,I.cell,I.free,I.freeC,I.pin,I.hok,I.len⟩
theorem SP.unwish{D:Ends}{f:Flow}{s':Shared}(h:SP (X.wish E) pins D f s'):SP X pins D f s':=by
 cases f with
 |next=>obtain⟨σ',H',I,q⟩:=h;exact⟨σ',H',I.unwish,q⟩
 |brk=>obtain⟨σ',H',I,q⟩:=h;exact⟨σ',H',I.unwish,q⟩
 |cont=>obtain⟨σ',H',I,q⟩:=h;exact⟨σ',H',I.unwish,q⟩
 |ret u=>obtain⟨v,σ',H',I,r,q⟩:=h;exact⟨v,σ',H',I.unwish,r,q⟩
end
section
variable{X:Cx}{st:Stmt}{rest:List Stmt}{t u:TS}{e:Expr}{te:TE}{pos:Pos}
def Gv:TS:=fun D σ H=>D.nx σ H
def Ja(t u:TS):TS:=fun D σ H=>t {D with nx:=u D} σ H
theorem Bp:PSs X [] Gv:=fun _ _ σ H _ I h=>wpAny_execs_nil ⟨σ,H,I,h⟩
theorem zi(h1:PS X st t)(h2:PSs X rest u):PSs X (st::rest) (Ja t u):=by
 intro pins s σ H D I h
 refine wpAny_execs_cons (bY (h1 pins s σ H {D with nx:=u D} I h) fun f s1 q=>?_)
 cases f with
 |next=>
  obtain⟨σ',H',I',q⟩:=q
  exact h2 pins s1 σ' H' D I' q
 |ret v=>exact q
 |brk=>exact q
 |cont=>exact q
theorem Bq(h1:PS X st t):PSs X [st] t:=by
 intro pins s σ H D I h
 refine wpAny_execs_cons (bY (h1 pins s σ H D I h) fun f s1 q=>?_)
 cases f with
 |next=>exact wpAny_execs_nil q
 |ret v=>exact q
 |brk=>exact q
 |cont=>exact q
theorem Inv.quiet{pins:List (Addr×Obj)}{σ:St}{H:Hp}{s:Shared}(I:Inv X pins σ H s):interactive X.env=false:=by simp[interactive,I.ok.kind]
def zT(te:TE):TS:=fun D σ H=>te σ H fun _ H1=>D.nx σ H1
theorem kX(he:PE X e te)(hs:swapsWith e none pos.line X.env=pure false:=by rfl):PS X (.Expr e pos) (zT te):=by
 intro pins s σ H D I h
 exact wpAny_Expr_any (bY (he pins s σ H _ I h) fun v s1 ⟨x,H1,I1,r1,q1⟩=>⟨σ,H1,I1,q1⟩) I.quiet hs
def I_(te:TE):TS:=fun D σ H=>te σ H D.rt
theorem D4(he:PE X e te):PS X (.Return (some e) pos) (I_ te):=by
 intro pins s σ H D I h
 exact wpAny_Return_some (bY (he pins s σ H _ I h) fun v s1 ⟨x,H1,I1,r1,q1⟩=>⟨x,σ,H1,I1,r1,q1⟩)
def IZ(c:TT)(t u:TS):TS:=fun D σ H=>c σ H fun b H1=>if b=true then t D σ H1 else u D σ H1
theorem F9{c:Expr}{a b:List Stmt}{tc:TT}(hc:PT X c tc)(ha:PSs X a t)(hb:PSs X b u):PS X (.If c a b pos) (IZ tc t u):=by
 intro pins s σ H D I h
 refine wpAny_If (bY (hc pins s σ H _ I h) fun d s1 ⟨H1,I1,q1⟩=>?_)
 cases d with
 |true=>exact ha pins s1 σ H1 D I1 q1
 |false=>exact hb pins s1 σ H1 D I1 q1
end
abbrev TG:=V→St→Hp→(St→Hp→Prop)→Prop
abbrev BO:=List V→St→Hp→(St→Hp→Prop)→Prop
def PG(X:Cx)(target:Expr)(t:TG):Prop:=
 ∀(pins:List (Addr×Obj)) (s:Shared) (σ:St) (H:Hp) (v:V) (u:Value) (Q:St→Hp→Prop),Inv X pins σ H s→RelV v u→t v σ H Q→
  wpAny (model X.prog X.w) X.A (assign target X.env u) (fun _ s'=>∃σ' H',Inv X pins σ' H' s'∧Q σ' H') X.xe s
def GG(X:Cx)(ts:List Expr)(t:BO):Prop:=
 ∀(pins:List (Addr×Obj)) (s:Shared) (σ:St) (H:Hp) (vs:List V) (us:List Value) (Q:St→Hp→Prop),Inv X pins σ H s→Vals vs us→t vs σ H Q→
  wpAny (model X.prog X.w) X.A (assignInOrder ((assignEach ts X.env).map (·.2)) us) (fun _ s'=>∃σ' H',Inv X pins σ' H' s'∧Q σ' H') X.xe s
abbrev Hc:=V→V→V→Hp→(Hp→Prop)→Prop
section
variable{X:Cx}{pos:Pos}
def yc(i:Nat):TG:=fun v σ H Q=>Q (σ.set i (some v)) H
theorem bc{i:Nat}{x:Str}(hN:X.N.Nodup)(hi:X.N[i]? =some x)(hx:Loc X.env.scope x)(hf:X.fn x=true∨X.env.scope.names.lookup x=some .local:=by first | exact .inl rfl | exact .inr rfl | assumption):PG X (.Name x pos) (yc i):=by
 intro pins s σ H v u Q I r h
 exact wpAny_assign_Name (sA I hN hi hx r (fun s' I'=>⟨_,H,I',h⟩) hf)
def E6:BO:=fun vs σ H Q=>vs=[]∧Q σ H
def BY(t:TG)(u:BO):BO:=fun vs σ H Q=>∃v r,vs=v::r∧t v σ H fun σ' H'=>u r σ' H' Q
theorem vv:GG X [] E6:=by
 intro pins s σ H vs us Q I r h
 obtain⟨e,h⟩:=h
 subst e
 cases r
 exact assignInOrder_nil ⟨σ,H,I,h⟩
theorem jb{e:Expr}{es:List Expr}{t:TG}{u:BO}(h1:PG X e t)(h2:GG X es u)
 (hs:(assignEach (e::es) X.env).map (·.2)=assign e X.env::(assignEach es X.env).map (·.2):=by rfl):GG X (e::es) (BY t u):=by
 intro pins s σ H vs us Q I r h
 obtain⟨v,vr,e1,h⟩:=h
 subst e1
 cases r with
 |cons r rr=>
  rw[hs]
  refine assignInOrder_cons (bY (h1 pins s σ H _ _ _ I r h) fun _ s1 ⟨σ1,H1,I1,q1⟩=>?_)
  exact h2 pins s1 σ1 H1 _ _ Q I1 rr q1
def E7(K:W.Frag)(n:Nat)(t:BO):TG:=fun v σ H Q=>∃a xs,v= .ref a∧SqT K H a xs∧xs.length=n∧t xs σ H Q
theorem ze{es:List Expr}{k:Nat}{t:BO}{n:Nat}(hc:X.calm=true)(h:GG X es t)
 (hn:(assignEach es X.env).length=n:=by rfl)(wa:(assignEach es X.env).findIdx? (·.1)=none:=by rfl):PG X (.Tuple es k pos) (E7 X.K n t):=by
 intro pins s σ H v u Q I r hw
 obtain⟨a,xs,e1,hq,hl,hw⟩:=hw
 subst e1
 cases r
 obtain⟨aA,rv,ht,hz⟩:=I.tuple hq
 refine assign_Tuple_tuple (I.ok.hd hc) ht (by simp[hn,←hl,rv.length]) wa fun h' hx=>?_
 have I1:Inv X pins σ H {s with heap:=h'}:=I.kept (t':=s.toks) fun b o e=>hx b o (Nat.ne_of_lt (Heap.lt_size e)) e
 exact h pins _ σ H xs _ Q I1 (by simpa using rv) hw
def tE(to ti:TE)(t:Hc):TG:=fun v σ H Q=>to σ H fun o H1=>ti σ H1 fun i H2=>t o i v H2 fun H3=>Q σ H3
def IT(te:TE)(g:TG):TS:=fun D σ H=>te σ H fun x H1=>g x σ H1 D.nx
theorem qb{tg e:Expr}{te:TE}{g:TG}(he:PE X e te)(hg:PG X tg g)(hs:swapsWithSole [tg] e pos.line X.env=pure false:=by rfl)(hw:swappedStores [tg] e X.env=pure none:=by rfl)
 (h1:(assignEach [tg] X.env).map (·.2)=[assign tg X.env]:=by rfl):PS X (.Assign [tg] e pos) (IT te g):=by
 intro pins s σ H D I h
 refine wpAny_Assign_stores (bY (he pins s σ H _ I h) fun v s1 ⟨x,H1,I1,r1,q1⟩=>?_) hs hw
 rw[h1]
 exact bY (hg pins s1 σ H1 x v _ I1 r1 q1) fun _ s2 q=>q
end
section
variable{X:Cx}{pos:Pos}
def Eo(c:TT)(tb:TS):TS:=fun D σ H=>∃W:Nat→St→Hp→Prop,(∃m,W m σ H)∧∀m σ H,W m σ H→
 c σ H fun b H1=>if b=true then∃N:St→Hp→Prop,(∀σ' H',N σ' H'→∃m',m'<m∧W m' σ' H')∧tb {D with nx:=N,ct:=N,bk:=D.nx} σ H1 else D.nx σ H1
theorem zg{c:Expr}{body:List Stmt}{tc:TT}{tb:TS}(hp:PassesOwn (model X.prog X.w) X.A X.env X.xe)(hc:PT X c tc)(hb:PSs X body tb):PS X (.While c body [] pos) (Eo tc tb):=by
 intro pins s σ H D I h
 obtain⟨W,⟨m0,w0⟩,turn⟩:=h
 refine wpAny_While (codeAny_whileLoop (fun n s'=>∃σ' H',Inv X pins σ' H' s'∧W n σ' H') ?_ m0 ⟨σ,H,I,w0⟩)
 rintro n s1 ⟨σ1,H1,I1,w1⟩
 refine wpAny_passesOwn hp (bY (hc pins s1 σ1 H1 _ I1 (turn n σ1 H1 w1)) fun b s2 ⟨H2,I2,q2⟩=>?_)
 cases b with
 |true=>
  obtain⟨N,hN,q2⟩:=q2
  rw[if_pos rfl]
  refine wpAny_passesOwn hp (bY (hb pins s2 σ1 H2 _ I2 q2) fun f s3 q3=>?_)
  cases f with
  |next=>
   obtain⟨σ3,H3,I3,n3⟩:=q3
   obtain⟨m',hm,w3⟩:=hN σ3 H3 n3
   exact⟨m',hm,σ3,H3,I3,w3⟩
  |cont=>
   obtain⟨σ3,H3,I3,n3⟩:=q3
   obtain⟨m',hm,w3⟩:=hN σ3 H3 n3
   exact⟨m',hm,σ3,H3,I3,w3⟩
  |brk=>exact q3
  |ret v=>exact q3
 |false=>
  rw[if_neg Bool.false_ne_true]
  exact wpAny_execs_nil ⟨σ1,H2,I2,q2⟩
end
structure It where
 go:Nat→Hp→Prop
 yld:Nat→Hp→V→Hp→Prop
 stop:Nat→Hp→Prop
def mY(X:Cx)(pins:List (Addr×Obj))(H:Hp)(b:Addr):Prop:=
 H b=none∧b≠X.env.locals∧b∉X.fs∧(b∈X.ex∨X.s₀.heap.objs.size≤b)∧(∀x c,X.env.cells.lookup x=some c→c≠b)∧∀p∈X.pn++pins,p.1≠b
theorem Inv.fpOk{X:Cx}{pins:List (Addr×Obj)}{σ:St}{H H':Hp}{s:Shared}{b:Addr}(I:Inv X pins σ H s)(hb:s.heap.objs.size≤b)(hn:H' b=none):mY X pins H' b:=by
 refine⟨hn,Nat.ne_of_gt (Nat.lt_of_lt_of_le I.lt hb),I.nofs hb, .inr (Nat.le_trans I.sz hb),fun x c e z=>?_,fun p hp z=>?_⟩
 ·obtain⟨v,q⟩:=I.cell x c e
  exact absurd (Nat.lt_of_lt_of_le q.lt (by rw[z];exact hb)) (Nat.lt_irrefl _)
 ·exact absurd (Nat.lt_of_lt_of_le (Heap.lt_size (I.pin p hp).1) (by rw[z];exact hb)) (Nat.lt_irrefl _)
structure Turn (P:Program) (w:World) (K:W.Frag) (tg:Expr) (J:It) (fp:List Addr) (it:Addr) (tn:Nat→Heap→Prop):Prop where
 mem:it∈fp
 obj:∀i h,tn i h→∀b∈fp,∃o,h.get? b=some o∧∀v,o.data≠ .cell v
 keep:∀i h h',tn i h→(∀b∈fp,∀o,h.get? b=some o→h'.get? b=some o)→tn i h'
 item:∀(X:Cx),X.prog=P→X.w=w→X.K=K→X.calm=true→∀(i:Nat) (pins:List (Addr×Obj)) (s:Shared) (σ:St) (H:Hp) (E:Value→Shared→Prop),Inv X pins σ H s→(∀b∈fp,mY X pins H b)→tn i s.heap→J.go i H→
  wpAny (model P w) X.A (pyNext (.ref it)) (fun r s1=>∃u,r=some u∧
   wpAny (model P w) X.A (letOwnedTupleGo tg (.ref it) u) (fun _ s2=>∃x H',Inv X pins σ H' s2∧RelV x u∧J.yld i H x H'∧tn (i+1) s2.heap∧∀b∈fp,H' b=none) E s1) E s
 done:∀(X:Cx),X.prog=P→X.w=w→X.K=K→X.calm=true→∀(i:Nat) (pins:List (Addr×Obj)) (s:Shared) (σ:St) (H:Hp) (E:Value→Shared→Prop),Inv X pins σ H s→(∀b∈fp,mY X pins H b)→tn i s.heap→J.stop i H→
  wpAny (model P w) X.A (pyNext (.ref it)) (fun r s1=>r=none∧Inv X pins σ H s1) E s
 self:∀(A:Around) (i:Nat) (s:Shared) (Q:Value→Shared→Prop) (E:Value→Shared→Prop),tn i s.heap→Q (.ref it) s→wpAny (model P w) A (pyIter (.ref it)) Q E s
abbrev TI:=St→Hp→(It→Hp→Prop)→Prop
def Jk(X:Cx)(pins:List (Addr×Obj))(σ:St)(tg:Expr)(R:It→Hp→Prop)(J3:Value)(s2:Shared):Prop:=
 ∃(it:Addr) (fp:List Addr) (tn:Nat→Heap→Prop) (J:It) (H':Hp),J3= .ref it∧Inv X pins σ H' s2∧Turn X.prog X.w X.K tg J fp it tn∧tn 0 s2.heap∧(∀b∈fp,mY X pins H' b)∧R J H'
def PI(X:Cx)(tg iter:Expr)(wi:TI):Prop:=
 ∀(pins:List (Addr×Obj)) (s:Shared) (σ:St) (H:Hp) (R:It→Hp→Prop),Inv X pins σ H s→wi σ H R→
  wpAny (model X.prog X.w) X.A (eval iter X.env) (fun v s1=>wpAny (model X.prog X.w) X.A (pyIter v) (Jk X pins σ tg R) X.xe s1) X.xe s
theorem nT{M:Model}{A:Around}{E:Value→Shared→Prop}{s:Shared}{tg:Expr}{it:Addr}{u:Value}{o:Obj}{n:String}{vs:Array Value}{Q:Unit→Shared→Prop}(ho:s.heap.get? it=some o)(hc:o.cls= .type n)(hd:o.data= .fields vs)
 (hn:["enumerate","zip","dict_itemiterator","dict_reverseitemiterator","odict_iterator","itertools.zip_longest","itertools.pairwise"].contains n=false)(hQ:Q () s):wpAny M A (letOwnedTupleGo tg (.ref it) u) Q E s:=by
 unfold letOwnedTupleGo
 cases tg<;>first
  |exact wpAny_pure hQ
  |(cases u<;>first
    |exact wpAny_pure hQ
    |(refine wpAny_bind (wpAny_load ho ?_)
      rw[hc,hd]
      show wpAny M A (if (["enumerate","zip","dict_itemiterator","dict_reverseitemiterator","odict_iterator","itertools.zip_longest","itertools.pairwise"].contains n&&vs[0]? ==some (rawInt _))=true then _ else _) Q E s
      rw[if_neg (by intro h;rw[hn,Bool.false_and] at h;cases h)]
      exact wpAny_pure hQ))
def G9(K:W.Frag)(a:Addr):It:=
 ⟨fun i H=>∃xs x,SqL K H a xs∧xs[i]? =some x,fun i H x H'=>H'=H∧∀xs,SqL K H a xs→xs[i]? =some x,fun i H=>∃xs,SqL K H a xs∧xs.length≤i⟩
def G_(K:W.Frag)(a:Addr):It:=
 ⟨fun i H=>∃xs x,SqT K H a xs∧xs[i]? =some x,fun i H x H'=>H'=H∧∀xs,SqT K H a xs→xs[i]? =some x,fun i H=>∃xs,SqT K H a xs∧xs.length≤i⟩
def EG(lo:Int)(n:Nat):It:=⟨fun i _=>i<n,fun i H x H'=>H'=H∧x= .int (lo+i),fun i _=>n≤i⟩
theorem xc{P:Program}{w:World}{K:W.Frag}{tg:Expr}(a it:Addr):Turn P w K tg (G9 K a) [it] it (fun i h=>h.IsListIter it a i) where
 mem:=by simp
 obj:=fun i h st b hb=>by
  have e:b=it:=by simpa using hb
  subst e
  obtain⟨o,e,c,d⟩:=st
  exact⟨o,e,fun v z=>by rw[d] at z;cases z⟩
 keep:=fun i h h' st k=>st.at fun o e=>k it (by simp) o e
 item:=by
  intro X hP hw hK hc i pins s σ H E I hf st hg
  subst hP hw hK
  obtain⟨xs,x,hq,hx⟩:=hg
  obtain⟨aA,rv,p,hz⟩:=I.list hq
  obtain⟨u,hu,ru⟩:=rv.get hx
  obtain⟨f0,f1,f2,f3,f4,f5⟩:=hf it (by simp)
  refine wpAny_pyNext_list_item st p.isList (x:=u) (by simpa using hu) fun h' mM sb=>?_
  have I1:Inv X pins σ H {s with heap:=h'}:=I.turned (t':=s.toks) (fun b o hb e=>(sb.2 b hb).trans e) f0 f1 f3 f4 f5
  obtain⟨o,e,c,d⟩:=id mM
  exact⟨u,rfl,nT (s:={s with heap:=h'}) e c d (by decide) ⟨x,H,I1,ru,⟨rfl,fun ys hy=>by rw[I.list_inj hy hq];exact hx⟩,mM,fun b hb=>(hf b hb).1⟩⟩
 done:=by
  intro X hP hw hK hc i pins s σ H E I hf st hg
  subst hP hw hK
  obtain⟨xs,hq,hx⟩:=hg
  obtain⟨aA,rv,p,hz⟩:=I.list hq
  obtain⟨f0,f1,f2,f3,f4,f5⟩:=hf it (by simp)
  have hl:=rv.length
  exact wpAny_pyNext_list_end (I.ok.hd hc) st p.isList (by simp;omega) fun h' eb=>⟨rfl,I.turned (t':=s.toks) (fun b o hb e=>eb b o hb e) f0 f1 f3 f4 f5⟩
 self:=fun _ _ _ _ _ st h=>wpAny_pyIter_listiter st h
theorem uA{P:Program}{w:World}{K:W.Frag}{tg:Expr}(a it:Addr):Turn P w K tg (G_ K a) [it] it (fun i h=>h.IsTupleIter it a i) where
 mem:=by simp
 obj:=fun i h st b hb=>by
  have e:b=it:=by simpa using hb
  subst e
  obtain⟨o,e,c,d⟩:=st
  exact⟨o,e,fun v z=>by rw[d] at z;cases z⟩
 keep:=fun i h h' st k=>st.at fun o e=>k it (by simp) o e
 item:=by
  intro X hP hw hK hc i pins s σ H E I hf st hg
  subst hP hw hK
  obtain⟨xs,x,hq,hx⟩:=hg
  obtain⟨aA,rv,p,hz⟩:=I.tuple hq
  obtain⟨u,hu,ru⟩:=rv.get hx
  obtain⟨f0,f1,f2,f3,f4,f5⟩:=hf it (by simp)
  refine wpAny_pyNext_tuple_item st (show s.heap.IsTuple a aA.toArray from p) (x:=u) (by simpa using hu) fun h' mM sb=>?_
  have I1:Inv X pins σ H {s with heap:=h'}:=I.turned (t':=s.toks) (fun b o hb e=>(sb.2 b hb).trans e) f0 f1 f3 f4 f5
  obtain⟨o,e,c,d⟩:=id mM
  exact⟨u,rfl,nT (s:={s with heap:=h'}) e c d (by decide) ⟨x,H,I1,ru,⟨rfl,fun ys hy=>by rw[I.tuple_inj hy hq];exact hx⟩,mM,fun b hb=>(hf b hb).1⟩⟩
 done:=by
  intro X hP hw hK hc i pins s σ H E I hf st hg
  subst hP hw hK
  obtain⟨xs,hq,hx⟩:=hg
  obtain⟨aA,rv,p,hz⟩:=I.tuple hq
  obtain⟨f0,f1,f2,f3,f4,f5⟩:=hf it (by simp)
  have hl:=rv.length
  exact wpAny_pyNext_tuple_end (I.ok.hd hc) st (show s.heap.IsTuple a aA.toArray from p) (by simp;omega) fun h' eb=>⟨rfl,I.turned (t':=s.toks) (fun b o hb e=>eb b o hb e) f0 f1 f3 f4 f5⟩
 self:=fun _ _ _ _ _ st h=>wpAny_pyIter_tupleiter st h
theorem uz{P:Program}{w:World}{K:W.Frag}{tg:Expr}(it:Addr)(lo:Int)(n:Nat):Turn P w K tg (EG lo n) [it] it (fun i h=>IsRangeIter h it (lo+(i:Nat)*1) ((n:Int) - (i:Nat)) 1) where
 mem:=by simp
 obj:=fun i h st b hb=>by
  have e:b=it:=by simpa using hb
  subst e
  exact⟨_,st,fun v z=>by
   have z':Data.fields _=Data.cell v:=z
   cases z'⟩
 keep:=fun i h h' st k=>k it (by simp) _ st
 item:=by
  intro X hP hw hK hc i pins s σ H E I hf st hg
  subst hP hw hK
  obtain⟨f0,f1,f2,f3,f4,f5⟩:=hf it (by simp)
  have W:=Walks.range (prog:=X.prog) (w:=X.w) (I.ok.hd hc) it lo 1 n
  refine W.item i s _ _ hg st fun v h' tk hv mM kk=>?_
  obtain⟨t,rfl⟩:=hv
  have I1:Inv X pins σ H {s with heap:=h',toks:=tk}:=I.turned (fun b o hb e=>kk b o (by simpa using hb) e) f0 f1 f3 f4 f5
  refine⟨_,rfl,nT (s:={s with heap:=h',toks:=tk}) (n:="range_iterator") mM rfl rfl (by decide) ⟨.int (lo+i),H,I1,⟨t,?_⟩,⟨rfl,rfl⟩,mM,fun b hb=>(hf b hb).1⟩⟩
  rw[Int.mul_one]
 done:=by
  intro X hP hw hK hc i pins s σ H E I hf st hg
  subst hP hw hK
  obtain⟨f0,f1,f2,f3,f4,f5⟩:=hf it (by simp)
  exact wpAny_pyNext_range_end (I.ok.hd hc) st (by have:n≤i:=hg;omega) fun h' eb=>⟨rfl,I.turned (t':=s.toks) (fun b o hb e=>eb b o hb e) f0 f1 f3 f4 f5⟩
 self:=fun _ _ _ _ _ st h=>wpAny_pyIter_rangeiter st h
section
variable{X:Cx}{tg:Expr}
def FC(K:W.Frag)(tl:TE):TI:=fun σ H R=>tl σ H fun x H1=>∃a,x= .ref a∧(∃xs,SqL K H1 a xs)∧R (G9 K a) H1
def Im(K:W.Frag)(tl:TE):TI:=fun σ H R=>tl σ H fun x H1=>∃a,x= .ref a∧(∃xs,SqT K H1 a xs)∧R (G_ K a) H1
theorem Bg{l:Expr}{tl:TE}(hl:PE X l tl):PI X tg l (FC X.K tl):=by
 intro pins s σ H R I h
 refine bY (hl pins s σ H _ I h) fun v s1 ⟨x,H1,I1,r1,q1⟩=>?_
 obtain⟨a,e,⟨xs,hq⟩,q⟩:=q1
 subst e
 cases r1
 obtain⟨aA,rv,p,hz⟩:=I1.list hq
 refine wpAny_pyIter_list p.isList ?_
 refine⟨s1.heap.objs.size,[s1.heap.objs.size],_,_,H1,rfl,I1.kept (t':=s1.toks) fun b o e=>Heap.get?_push_of_some _ e,xc a _,⟨_,Heap.get?_push_size _ rfl,rfl,rfl⟩,fun b hb=>?_,q⟩
 have e:b=s1.heap.objs.size:=by simpa using hb
 subst e
 exact I1.fpOk (Nat.le_refl _) (I1.hok.fresh (Nat.le_refl _))
theorem D2{l:Expr}{tl:TE}(hl:PE X l tl):PI X tg l (Im X.K tl):=by
 intro pins s σ H R I h
 refine bY (hl pins s σ H _ I h) fun v s1 ⟨x,H1,I1,r1,q1⟩=>?_
 obtain⟨a,e,⟨xs,hq⟩,q⟩:=q1
 subst e
 cases r1
 obtain⟨aA,rv,p,hz⟩:=I1.tuple hq
 refine wpAny_pyIter_tuple (show s1.heap.IsTuple a aA.toArray from p) ?_
 refine⟨s1.heap.objs.size,[s1.heap.objs.size],_,_,H1,rfl,I1.kept (t':=s1.toks) fun b o e=>Heap.get?_push_of_some _ e,uA a _,⟨_,Heap.get?_push_size _ rfl,rfl,rfl⟩,fun b hb=>?_,q⟩
 have e:b=s1.heap.objs.size:=by simpa using hb
 subst e
 exact I1.fpOk (Nat.le_refl _) (I1.hok.fresh (Nat.le_refl _))
theorem r0{pins:List (Addr×Obj)}{σ:St}{H:Hp}{s:Shared}{R:It→Hp→Prop}{E:Value→Shared→Prop}{lo hi:Int}{t u v:Tok}{tk:Nat}(I:Inv X pins σ H s)(h1: -(2 ^ 62)≤lo)(h2:lo<2 ^ 62)(h3: -(2 ^ 62)≤hi)(h4:hi<2 ^ 62)
 (q:R (EG lo (hi - lo).toNat) H):wpAny (model X.prog X.w) X.A (pyIter (.ref s.heap.objs.size)) (Jk X pins σ tg R) E {s with heap:=s.heap.push {cls:= .type "range",data:= .fields #[.int lo t, .int hi u, .int 1 v]},toks:=tk}:=by
 refine wpAny_pyIter_range (IsRange.new ..) (small_one h1 h2 h3 h4) ?_
 have I1:Inv X pins σ H {s with heap:=s.heap.push {cls:= .type "range",data:= .fields #[.int lo t, .int hi u, .int 1 v]},toks:=tk}:=I.kept fun b o e=>Heap.get?_push_of_some _ e
 refine⟨(s.heap.push {cls:= .type "range",data:= .fields #[.int lo t, .int hi u, .int 1 v]}).objs.size,[(s.heap.push {cls:= .type "range",data:= .fields #[.int lo t, .int hi u, .int 1 v]}).objs.size],_,_,H,rfl,
  I1.kept (t':=tk) fun b o e=>Heap.get?_push_of_some _ e,uz _ lo (hi - lo).toNat,?_,fun b hb=>?_,q⟩
 ·have e1:lo+((0:Nat):Int)*1=lo:=by simp
  have e2:(((hi - lo).toNat:Nat):Int) - ((0:Nat):Int)=Builtin.Range.rangeSize lo hi 1:=by rw[rangeSize_one];split<;>omega
  show IsRangeIter _ _ (lo+((0:Nat):Int)*1) ((((hi - lo).toNat:Nat):Int) - ((0:Nat):Int)) 1
  rw[e1,e2]
  exact Heap.get?_push_size _ rfl
 ·have e:b=(s.heap.push {cls:= .type "range",data:= .fields #[.int lo t, .int hi u, .int 1 v]}).objs.size:=by simpa using hb
  subst e
  exact I1.fpOk (Nat.le_refl _) (I1.hok.fresh (Nat.le_refl _))
def FD(ta:TA):TI:=fun σ H R=>ta σ H fun vs H1=>∃j:Int,vs=[.int j]∧ -(2 ^ 62)≤j∧j<2 ^ 62∧R (EG 0 j.toNat) H1
def FE(ta:TA):TI:=fun σ H R=>ta σ H fun vs H1=>∃i j:Int,vs=[.int i, .int j]∧(-(2 ^ 62)≤i∧i<2 ^ 62∧ -(2 ^ 62)≤j∧j<2 ^ 62)∧R (EG i (j - i).toNat) H1
theorem wR{a:Expr}{ta:TA}{p pos:Pos}(hg:Gl X "range")(hm:X.mg "range"=none)(ha:PA X [a] ta)(hs:starEach [a] X.env=[(false,eval a X.env)]:=by rfl):PI X tg (.Call (.Name "range" p) [a] [] pos) (FD ta):=by
 intro pins s σ H R I h
 refine Call_ (eV I hg hm boot_range (PyProof.Rows.callWith_type1 (bY (ha pos pins s σ H _ I h) fun us s1 ⟨vs,H1,I1,r1,q1⟩=>?_) hs rfl))
 obtain⟨j,e,q1,q2,q⟩:=q1
 subst e
 cases r1 with
 |cons r rr=>
  cases rr
  obtain⟨t,rfl⟩:=r
  exact call_range_1 (r0 I1 (by omega) (by omega) q1 q2 (by simpa using q))
theorem wU{a b:Expr}{ta:TA}{p pos:Pos}(hg:Gl X "range")(hm:X.mg "range"=none)(ha:PA X [a,b] ta)(hs:starEach [a,b] X.env=[(false,eval a X.env),(false,eval b X.env)]:=by rfl)(GV:starEach [b] X.env=[(false,eval b X.env)]:=by rfl):
 PI X tg (.Call (.Name "range" p) [a,b] [] pos) (FE ta):=by
 intro pins s σ H R I h
 refine Call_ (eV I hg hm boot_range (PyProof.Rows.callWith_type1 (bY (ha pos pins s σ H _ I h) fun us s1 ⟨vs,H1,I1,r1,q1⟩=>?_) (by rw[hs,GV]) (by rw[GV];rfl)))
 obtain⟨i,j,e,⟨q1,q2,q3,q4⟩,q⟩:=q1
 subst e
 cases r1 with
 |cons r rr=>
  cases rr with
  |cons r' rr=>
   cases rr
   obtain⟨t,rfl⟩:=r
   obtain⟨t',rfl⟩:=r'
   exact call_range_2 (r0 I1 q1 q2 q3 q4 q)
def IY(wi:TI)(g:TG)(tb:TS):TS:=fun D σ H=>wi σ H fun J H1=>∃W:Nat→Nat→St→Hp→Prop,(∃m,W 0 m σ H1)∧∀i m σ H,W i m σ H→
 (J.stop i H∧D.nx σ H)∨(J.go i H∧∃N:St→Hp→Prop,(∀σ' H',N σ' H'→∃m',m'<m∧W (i+1) m' σ' H')∧∀x H',J.yld i H x H'→g x σ H' fun σ2 H2=>tb {D with nx:=N,ct:=N,bk:=D.nx} σ2 H2)
def mx(fp:List Addr)(h:Heap):List (Addr×Obj):=fp.filterMap fun b=>(h.get? b).map fun o=>(b,o)
theorem fJ{fp:List Addr}{h:Heap}{b:Addr}{o:Obj}(hb:b∈fp)(e:h.get? b=some o):(b,o)∈mx fp h:=List.mem_filterMap.mpr ⟨b,hb,by rw[e];rfl⟩
theorem wF{fp:List Addr}{h:Heap}{p:Addr×Obj}(hp:p∈mx fp h):p.1∈fp∧h.get? p.1=some p.2:=by
 obtain⟨b,hb,e⟩:=List.mem_filterMap.mp hp
 cases q:h.get? b with
 |none=>rw[q] at e;cases e
 |some o=>
  rw[q] at e
  have e':(b,o)=p:=Option.some.inj e
  subst e'
  exact⟨hb,q⟩
theorem Inv.pinned{pins:List (Addr×Obj)}{σ:St}{H:Hp}{s:Shared}{fp:List Addr}(I:Inv X pins σ H s)(hf:∀b∈fp,mY X pins H b)(ho:∀b∈fp,∃o,s.heap.get? b=some o∧∀v,o.data≠ .cell v):Inv X (pins++mx fp s.heap) σ H s:=
 I.pins_of fun p hp=>(List.mem_append.mp hp).elim (fun z=>I.pin p (List.mem_append_right _ z)) fun z=>by
  obtain⟨hb,e⟩:=wF z
  obtain⟨f0,f1,f2,_⟩:=hf p.1 hb
  obtain⟨o,e',d⟩:=ho p.1 hb
  rw[e] at e';cases e'
  exact⟨e,f0,f1,f2,d⟩
theorem Inv.unpinned{pins pl:List (Addr×Obj)}{σ:St}{H:Hp}{s:Shared}(I:Inv X (pins++pl) σ H s):Inv X pins σ H s:=I.pins_of fun p hp=>I.pin p (List.mem_append_right _ (List.mem_append_left _ hp))
theorem D3{iter:Expr}{body:List Stmt}{wi:TI}{g:TG}{tb:TS}{pos:Pos}(hp:PassesOwn (model X.prog X.w) X.A X.env X.xe)(hc:X.calm=true)(hi:PI X tg iter wi)(hg:PG X tg g)(hb:PSs X body tb)
 (hs:∀x,foldedSetIterable iter X.env x=pure x:=by intro _;rfl):PS X (.For tg iter body [] pos) (IY wi g tb):=by
 intro pins s σ H D I h
 refine wpAny_For (bY (hi pins s σ H _ I h) fun v s1 h1=>bY h1 fun J3 s2 h2=>?_) hs
 obtain⟨it,fp,tn,J,H2,e,I2,T,uw,f2,W,⟨m0,w0⟩,turn⟩:=h2
 subst e
 have El:∀{H':Hp},(∀b∈fp,H' b=none)→∀b∈fp,mY X pins H' b:=fun hn b hb=>⟨hn b hb,(f2 b hb).2⟩
 refine codeAny_forLoop_any (fun n s'=>∃i σ' H',Inv X pins σ' H' s'∧tn i s'.heap∧(∀b∈fp,H' b=none)∧W i n σ' H') ?_ m0 ⟨0,σ,H2,I2,uw,fun b hb=>(f2 b hb).1,w0⟩
 rintro n s3 ⟨i,σ3,H3,I3,EC,GJ,w3⟩
 rcases turn i n σ3 H3 w3 with⟨stop,qn⟩ | ⟨go,N,hN,step⟩
 ·refine wpAny_passesOwn hp (bY (T.done X rfl rfl rfl hc i pins s3 σ3 H3 X.xe I3 (El GJ) EC stop) fun r s4 ⟨hr,I4⟩=>?_)
  subst hr
  exact wpAny_execs_nil ⟨σ3,H3,I4,qn⟩
 ·refine wpAny_passesOwn hp (bY (T.item X rfl rfl rfl hc i pins s3 σ3 H3 X.xe I3 (El GJ) EC go) fun r s4 ⟨u,hr,h4⟩=>?_)
  subst hr
  refine wpAny_passesOwn hp (bY h4 fun _ s5 ⟨x,H5,I5,r5,y5,IS,Ks⟩=>?_)
  have I5':=I5.pinned (El Ks) (T.obj _ _ IS)
  refine wpAny_passesOwn hp (bY (hg _ s5 σ3 H5 x u _ I5' r5 (step x H5 y5)) fun _ s6 ⟨σ6,H6,I6,q6⟩=>?_)
  refine wpAny_passesOwn hp (bY (hb _ s6 σ6 H6 _ I6 q6) fun f s7 q7=>?_)
  have again:∀{σ7:St}{H7:Hp},Inv X (pins++mx fp s5.heap) σ7 H7 s7→N σ7 H7→∃m,m<n∧∃i σ' H',Inv X pins σ' H' s7∧tn i s7.heap∧(∀b∈fp,H' b=none)∧W i m σ' H':=fun {σ7 H7} I7 n7=>by
   obtain⟨m',hm,w7⟩:=hN σ7 H7 n7
   refine⟨m',hm,i+1,σ7,H7,I7.unpinned,T.keep _ _ _ IS fun b hb o e=>(I7.pin (b,o) (List.mem_append_right _ (List.mem_append_right _ (fJ hb e)))).1,fun b hb=>?_,w7⟩
   obtain⟨o,e,d⟩:=T.obj _ _ IS b hb
   exact(I7.pin (b,o) (List.mem_append_right _ (List.mem_append_right _ (fJ hb e)))).2.1
  cases f with
  |next=>obtain⟨σ7,H7,I7,n7⟩:=q7;exact again I7 n7
  |cont=>obtain⟨σ7,H7,I7,n7⟩:=q7;exact again I7 n7
  |brk=>obtain⟨σ7,H7,I7,q7⟩:=q7;exact⟨σ7,H7,I7.unpinned,q7⟩
  |ret v=>obtain⟨x7,σ7,H7,I7,r7,q7⟩:=q7;exact⟨x7,σ7,H7,I7.unpinned,r7,q7⟩
end
abbrev R2:=V→V→Hp→VK→Prop
def OpR(X:Cx)(f:Value→Value→Sem Value)(r:R2):Prop:=
 ∀(pins:List (Addr×Obj)) (s:Shared) (σ:St) (H:Hp) (x y:V) (v u:Value) (Q:VK),Inv X pins σ H s→RelV x v→RelV y u→r x y H Q→
  wpAny (model X.prog X.w) X.A (f v u) (EP X pins σ Q) X.xe s
def CallR(X:Cx)(f:Value)(r:List V→Hp→VK→Prop):Prop:=
 ∀(pins:List (Addr×Obj)) (s:Shared) (σ:St) (H:Hp) (xs:List V) (us:List Value) (Q:VK),Inv X pins σ H s→Vals xs us→r xs H Q→
  wpAny (model X.prog X.w) X.A (call f us) (EP X pins σ Q) X.xe s
def Hd(X:Cx)(r:V→Hp→(Bool→Hp→Prop)→Prop):Prop:=
 ∀(pins:List (Addr×Obj)) (s:Shared) (σ:St) (H:Hp) (x:V) (v:Value) (Q:Bool→Hp→Prop),Inv X pins σ H s→RelV x v→r x H Q→
  wpAny (model X.prog X.w) X.A (truthy v) (TP X pins σ Q) X.xe s
def Gx(r:R2)(ta tb:TE):TE:=fun σ H Q=>ta σ H fun x H1=>tb σ H1 fun y H2=>r x y H2 Q
def rI(C:Int→Int→Prop)(g:Int→Int→V):R2:=fun x y H Q=>∃i j,x= .int i∧y= .int j∧C i j∧Q (g i j) H
def wY(g:Int→Int→V):R2:=fun x y H Q=>∃i j,x= .int i∧y= .int j∧Q (g i j) H
section
variable{X:Cx}{a b c:Expr}{ta tb tc:TE}{pos:Pos}
theorem Ct(ha:PE X a ta)(hb:PE X b tb){pins:List (Addr×Obj)}{s:Shared}{σ:St}{H:Hp}{R:V→V→Hp→Prop}(I:Inv X pins σ H s)
 (h:ta σ H fun x H1=>tb σ H1 fun y H2=>R x y H2){Q:Value→Shared→Prop}{f:Value→Value→Sem Value}
 (hf:∀v u s2 x y H2,Inv X pins σ H2 s2→RelV x v→RelV y u→R x y H2→wpAny (model X.prog X.w) X.A (f v u) Q X.xe s2):
 wpAny (model X.prog X.w) X.A (eval a X.env) (fun v s₁=>wpAny (model X.prog X.w) X.A (eval b X.env) (fun u s₂=>wpAny (model X.prog X.w) X.A (f v u) Q X.xe s₂) X.xe s₁) X.xe s:=by
 refine bY (ha pins s σ H _ I h) fun v s1 ⟨x,H1,I1,r1,q1⟩=>?_
 refine bY (hb pins s1 σ H1 _ I1 q1) fun u s2 ⟨y,H2,I2,r2,q2⟩=>?_
 exact hf v u s2 x y H2 I2 r1 r2 q2
theorem F8{op:Operator}{r:R2}(ho:OpR X (binaryOp op) r)(ha:PE X a ta)(hb:PE X b tb):PE X (.BinOp a op b pos) (Gx r ta tb):=by
 intro pins s σ H Q I h
 exact wpAny_BinOp (Ct ha hb I h fun v u s2 x y H2 I2 rx ry q=>ho pins s2 σ H2 x y v u Q I2 rx ry q)
theorem IC{f:Value→Value→Sem Value}{C:Int→Int→Prop}{g:Int→Int→Int}
 (rule:∀(i j:Int) (t u:Tok) (s:Shared) (Q:Value→Shared→Prop) (E:Value→Shared→Prop),C i j→Q (.int (g i j) s.toks) {s with toks:=s.toks+1}→wpAny (model X.prog X.w) X.A (f (.int i t) (.int j u)) Q E s):
 OpR X f (rI C fun i j=> .int (g i j)):=by
 intro pins s σ H x y v u Q I rx ry h
 obtain⟨i,j,rfl,rfl,hc,q⟩:=h
 obtain⟨t,rfl⟩:=rx
 obtain⟨t',rfl⟩:=ry
 exact rule i j t t' s _ _ hc ⟨.int (g i j),H,I.tok _,⟨_,rfl⟩,q⟩
theorem FV{f:Value→Value→Sem Value}{g:Int→Int→Int}
 (rule:∀(i j:Int) (t u:Tok) (s:Shared) (Q:Value→Shared→Prop) (E:Value→Shared→Prop),Q (.int (g i j) s.toks) {s with toks:=s.toks+1}→wpAny (model X.prog X.w) X.A (f (.int i t) (.int j u)) Q E s):
 OpR X f (wY fun i j=> .int (g i j)):=by
 intro pins s σ H x y v u Q I rx ry h
 obtain⟨i,j,rfl,rfl,q⟩:=h
 obtain⟨t,rfl⟩:=rx
 obtain⟨t',rfl⟩:=ry
 exact rule i j t t' s _ _ ⟨.int (g i j),H,I.tok _,⟨_,rfl⟩,q⟩
theorem FU{f:Value→Value→Sem Value}{g:Int→Int→Bool}
 (rule:∀(i j:Int) (t u:Tok) (s:Shared) (Q:Value→Shared→Prop) (E:Value→Shared→Prop),Q (.bool (g i j)) s→wpAny (model X.prog X.w) X.A (f (.int i t) (.int j u)) Q E s):
 OpR X f (wY fun i j=> .bl (g i j)):=by
 intro pins s σ H x y v u Q I rx ry h
 obtain⟨i,j,rfl,rfl,q⟩:=h
 obtain⟨t,rfl⟩:=rx
 obtain⟨t',rfl⟩:=ry
 exact rule i j t t' s _ _ ⟨.bl (g i j),H,I,rfl,q⟩
def EE(i j:Int):Prop:=0<j∧j<1073741824
def CMul(i j:Int):Prop:=(-(2 ^ 64)<i∧i<2 ^ 64)∨(-(2 ^ 64)<j∧j<2 ^ 64)
theorem CMul.ok{i j:Int}(h:CMul i j):IntMulOk i j:=by
 rcases h with⟨h1,h2⟩ | ⟨h1,h2⟩
 ·exact .of_left (intBits_le_64 h1 h2)
 ·exact .of_right (intBits_le_64 h1 h2)
theorem Ds:OpR X (binaryOp .Add) (wY fun i j=> .int (i+j)):=FV fun _ _ _ _ _ _ _ q=>add_int q
theorem DB:OpR X (binaryOp .Sub) (wY fun i j=> .int (i - j)):=FV fun _ _ _ _ _ _ _ q=>sub_int q
theorem Dx:OpR X (binaryOp .Mult) (rI CMul fun i j=> .int (i*j)):=IC fun _ _ _ _ _ _ _ hc q=>mul_int q hc.ok
theorem AW:OpR X (binaryOp .FloorDiv) (rI EE fun i j=> .int (i / j)):=IC fun i j _ _ _ _ _ hc q=>by
 have h1:(0:Int)<j:=hc.1
 have h2:j<1073741824:=hc.2
 exact floordiv_int (by omega) (by rw[Int.fdiv_eq_ediv_of_nonneg i (by omega)];exact q) (.inl (PyProof.noPylong_small (by omega)))
theorem Dw:OpR X (binaryOp .Mod) (rI (fun _ j=>0<j) fun i j=> .int (i % j)):=IC fun i j _ _ _ _ _ hc q=>by
 have h1:(0:Int)<j:=hc
 exact mod_int' (by omega) (by rw[Int.fmod_eq_emod_of_nonneg i (by omega)];exact q)
end
section
variable{X:Cx}{a b c:Expr}{ta tb tc:TE}{pos:Pos}
theorem CG{pins:List (Addr×Obj)}{σ:St}{H:Hp}{s:Shared}{Q:VK}{k k':Bool}(I:Inv X pins σ H s)(q:Q (.bl k) H)(e:k=k'):EP X pins σ Q (.bool k') s:=by
 subst e
 exact⟨.bl k,H,I,rfl,q⟩
theorem Cf:OpR X (compareOp .Lt) (wY fun i j=> .bl (decide (i<j))):=FU fun _ _ _ _ _ _ _ q=>lt_int q
theorem me:OpR X (compareOp .LtE) (wY fun i j=> .bl (decide (i≤j))):=FU fun _ _ _ _ _ _ _ q=>le_int q
theorem wH:OpR X (compareOp .In) (fun x y H Q=>∃i j,x= .str i∧y= .str j∧Q (.bl (!(Builtin.Str.occurrences j i 0 j.length 1).isEmpty)) H):=by
 intro pins s σ H x y v u Q I rx ry h
 obtain⟨i,j,rfl,rfl,q⟩:=h
 obtain⟨t,rfl⟩:=rx
 obtain⟨t',rfl⟩:=ry
 exact in_str (CG I q rfl)
theorem OpR.or{f:Value→Value→Sem Value}{r r':R2}(h:OpR X f r)(h':OpR X f r'):OpR X f (fun x y H Q=>r x y H Q∨r' x y H Q):=by
 intro pins s σ H x y v u Q I rx ry q
 rcases q with q | q
 ·exact h pins s σ H x y v u Q I rx ry q
 ·exact h' pins s σ H x y v u Q I rx ry q
theorem yJ(b:Expr){op:CmpOp}(h:op≠ .In:=by decide)(h2:op≠ .NotIn:=by decide):behindInMarks op b=false:=by
 have e1:(op==CmpOp.In)=false:=by cases op<;>first | rfl | exact absurd rfl h
 have e2:(op==CmpOp.NotIn)=false:=by cases op<;>first | rfl | exact absurd rfl h2
 cases b<;>simp[behindInMarks,e1,e2]
theorem Bd{op:CmpOp}{r:R2}(ho:OpR X (compareOp op) r)(ha:PE X a ta)(hb:PE X b tb)(hm:behindInMarks op b=false):PE X (.Compare a [op] [b] pos) (Gx r ta tb):=by
 intro pins s σ H Q I h
 exact wpAny_Compare1 (Ct ha hb I h fun v u s2 x y H2 I2 rx ry q=>ho pins s2 σ H2 x y v u Q I2 rx ry q) hm
def Ck(t:TE):TT:=fun σ H Q=>t σ H fun x H'=>∃k,x= .bl k∧Q k H'
theorem Br{op:CmpOp}{r:R2}(ho:OpR X (compareOp op) r)(ha:PE X a ta)(hb:PE X b tb)(hm:behindInMarks op b=false):PT X (.Compare a [op] [b] pos) (Ck (Gx r ta tb)):=by
 intro pins s σ H Q I h
 refine wpAny_isTrue_Compare1 (bY (ha pins s σ H _ I h) fun v s1 ⟨x,H1,I1,r1,q1⟩=>bY (hb pins s1 σ H1 _ I1 q1) fun u s2 ⟨y,H2,I2,r2,q2⟩=>
  bY (ho pins s2 σ H2 x y v u _ I2 r1 r2 q2) fun c s3 ⟨z,H3,I3,r3,k,e,q3⟩=>?_) hm
 subst e
 cases r3
 exact wpAny_truthy_bool ⟨H3,I3,q3⟩
def ux(r r':R2)(ta tb tc:TE):TE:=fun σ H Q=>ta σ H fun x H1=>tb σ H1 fun y H2=>r x y H2 fun z H3=>∃k,z= .bl k∧
 (if k=true then tc σ H3 fun w' H4=>r' y w' H4 Q else Q (.bl false) H3)
theorem za{op t8:CmpOp}{r r':R2}(ho:OpR X (compareOp op) r)(nV:OpR X (compareOp t8) r')(ha:PE X a ta)(hb:PE X b tb)(hc:PE X c tc)
 (hm:lastMarks [op,t8] [b,c]=false:=by with_unfolding_all rfl):PE X (.Compare a [op,t8] [b,c] pos) (ux r r' ta tb tc):=by
 intro pins s σ H Q I h
 refine Compare_chain (bY (ha pins s σ H _ I h) fun v s1 ⟨x,H1,I1,r1,q1⟩=>chain_link (bY (hb pins s1 σ H1 _ I1 q1) fun u s2 ⟨y,H2,I2,r2,q2⟩=>
  bY (ho pins s2 σ H2 x y v u _ I2 r1 r2 q2) fun d s3 ⟨z,H3,I3,r3,k,e,q3⟩=>?_)) hm
 subst e
 cases r3
 refine wpAny_truthy_bool ?_
 cases k with
 |false=>exact ite_ff ⟨.bl false,H3,I3,rfl,q3⟩
 |true=>exact ite_tt (chain_last (bY (hc pins s3 σ H3 _ I3 q3) fun w' s4 ⟨z',H4,I4,r4,q4⟩=>nV pins s4 σ H4 y z' u w' Q I4 r2 r4 q4))
theorem zk{op t8:CmpOp}{r r':R2}(ho:OpR X (compareOp op) r)(nV:OpR X (compareOp t8) r')(ha:PE X a ta)(hb:PE X b tb)(hc:PE X c tc)
 (hm:lastMarks [op,t8] [b,c]=false:=by with_unfolding_all rfl):PT X (.Compare a [op,t8] [b,c] pos) (Ck (ux r r' ta tb tc)):=by
 intro pins s σ H Q I h
 refine isTrue_chain (bY (ha pins s σ H _ I h) fun v s1 ⟨x,H1,I1,r1,q1⟩=>test_link (bY (hb pins s1 σ H1 _ I1 q1) fun u s2 ⟨y,H2,I2,r2,q2⟩=>
  bY (ho pins s2 σ H2 x y v u _ I2 r1 r2 q2) fun d s3 ⟨z,H3,I3,r3,k,e,q3⟩=>?_)) hm
 subst e
 cases r3
 refine wpAny_truthy_bool ?_
 cases k with
 |false=>
  obtain⟨k',e',q'⟩:=q3
  cases e'
  exact ite_ff ⟨H3,I3,q'⟩
 |true=>
  refine ite_tt (test_last (bY (hc pins s3 σ H3 _ I3 q3) fun w' s4 ⟨z',H4,I4,r4,q4⟩=>bY (nV pins s4 σ H4 y z' u w' _ I4 r2 r4 q4) fun d' s5 ⟨z2,H5,I5,r5,k2,e2,q5⟩=>?_))
  subst e2
  cases r5
  exact wpAny_truthy_bool ⟨H5,I5,q5⟩
def EK(K:W.Frag)(x:V)(H:Hp)(k:Bool):Prop:=
 match x with
 | .non=>k=false
 | .bl b=>k=b
 | .int i=>k=(i !=0)
 | .str y=>y.length≤sizeLine∧k=((y.length:Int) !=0)
 | .byt y=>y.size≤sizeLine∧k=((y.size:Int) !=0)
 | .ref p=>(∃xs,SqL K H p xs∧k=!xs.isEmpty)∨(∃xs,SqT K H p xs∧k=!xs.isEmpty)∨∃aw,H p=some (.dK aw)∧k=!aw.isEmpty
 |_=>False
theorem tH{κ:Type}{aw:List (κ×V)}{vs:List (κ×Value)}(r:KV aw vs):(!vs.isEmpty)=!aw.isEmpty:=by
 cases r<;>rfl
theorem lG{xs:List V}{aA:List Value}(r:Vals xs aA):(!aA.toArray.isEmpty)=!xs.isEmpty:=by
 cases r<;>simp
theorem jA:(sizeLine:Nat)<2 ^ 63:=by rw[sizeLine_eq];decide
theorem Ep:Hd X (fun x H Q=>∃k,EK X.K x H k∧Q k H):=by
 intro pins s σ H x v Q I rx h
 obtain⟨k,e,q⟩:=h
 have hl:=jA
 have hs:sizeLine=16777216:=sizeLine_eq
 cases x with
 |non=>
  cases rx
  have e':k=false:=e
  subst e'
  exact truthy_none ⟨H,I,q⟩
 |bl b=>
  cases rx
  have e':k=b:=e
  subst e'
  exact wpAny_truthy_bool ⟨H,I,q⟩
 |int i=>
  obtain⟨t,rfl⟩:=rx
  have e':k=(i !=0):=e
  subst e'
  exact PySem.P.truthy_int ⟨H,I,q⟩
 |str y=>
  obtain⟨t,rfl⟩:=rx
  obtain⟨hy,e'⟩:y.length≤sizeLine∧k=((y.length:Int) !=0):=e
  subst e'
  exact PySem.P.truthy_str (by omega) ⟨H,I.tok _,q⟩
 |byt y=>
  obtain⟨t,rfl⟩:=rx
  obtain⟨hy,e'⟩:y.size≤sizeLine∧k=((y.size:Int) !=0):=e
  subst e'
  exact PySem.W.truthy_bytes (by omega) ⟨H,I.tok _,q⟩
 |ref p=>
  cases rx
  have e':(∃xs,SqL X.K H p xs∧k=!xs.isEmpty)∨(∃xs,SqT X.K H p xs∧k=!xs.isEmpty)∨∃aw,H p=some (.dK aw)∧k=!aw.isEmpty:=e
  rcases e' with⟨xs,hx,e'⟩ | ⟨xs,hx,e'⟩ | ⟨aw,hx,e'⟩
  ·subst e'
   obtain⟨aA,r,pl,hz⟩:=I.list hx
   have hlen:=r.length
   exact wpAny_truthy_list pl.isList (by simp only[List.size_toArray];omega) ⟨H,I.tok _,by rw[lG r];exact q⟩
  ·subst e'
   obtain⟨aA,r,pl,hz⟩:=I.tuple hx
   have hlen:=r.length
   exact truthy_tuple pl (by simp only[List.size_toArray];omega) ⟨H,I.tok _,by rw[lG r];exact q⟩
  ·subst e'
   obtain⟨hz,hS,vs,r,m⟩:aw.length≤sizeLine∧(p==sysModules)=false∧∃vs,KV aw vs∧s.heap.DictOf (bb X.prog X.w) p vs:=I.hok p _ hx
   have hlen:aw.length=vs.length:=Paired.length r
   exact wpAny_truthy_dict hS m (by omega) ⟨H,I.tok _,by rw[tH r];exact q⟩
 |_=>exact(show False from e).elim
theorem zm(ha:PE X a ta)(he:∀whole,isTrue a X.env whole=(do let v←whole;standAt a.pos;holding [v] (truthy v))):
 PT X a (fun σ H Q=>ta σ H fun x H'=>∃k,EK X.K x H' k∧Q k H'):=by
 intro pins s σ H Q I h
 exact isTrue_plain (bY (ha pins s σ H _ I h) fun v s1 ⟨x,H1,I1,r1,q1⟩=>Ep pins s1 σ H1 x v Q I1 r1 q1) (he _)
theorem vals1{x:V}{us:List Value}(r:Vals [x] us):∃u,us=[u]∧RelV x u:=by
 cases r with
 |cons r1 r2=>cases r2;exact⟨_,rfl,r1⟩
theorem vals2{x y:V}{us:List Value}(r:Vals [x,y] us):∃u w',us=[u,w']∧RelV x u∧RelV y w':=by
 cases r with
 |cons r1 r2=>
  cases r2 with
  |cons r3 r4=>cases r4;exact⟨_,_,rfl,r1,r3⟩
theorem xD:CallR X (.builtin "abs") (fun xs H Q=>∃i,xs=[.int i]∧Q (.int (if i<0 then -i else i)) H):=by
 intro pins s σ H xs us Q I r h
 obtain⟨i,rfl,q⟩:=h
 obtain⟨u,rfl,t,rfl⟩:=vals1 r
 exact call_abs_int fun u tk=>⟨.int (if i<0 then -i else i),H,I.tok _,⟨_,rfl⟩,q⟩
theorem vS(hc:X.calm=true):CallR X (.builtin "max") (fun xs H Q=>∃i j,xs=[.int i, .int j]∧Q (.int (if j>i then j else i)) H):=by
 intro pins s σ H xs us Q I r h
 obtain⟨i,j,rfl,q⟩:=h
 obtain⟨u,w',rfl,⟨t,rfl⟩,⟨t',rfl⟩⟩:=vals2 r
 refine max_two_ints (I.ok.hd hc) fun h' tk k=>⟨_,H,I.kept k,?_,q⟩
 by_cases hj:j>i
 ·rw[if_pos hj,if_pos hj];exact⟨_,rfl⟩
 ·rw[if_neg hj,if_neg hj];exact⟨_,rfl⟩
theorem vT(hc:X.calm=true):CallR X (.builtin "min") (fun xs H Q=>∃i j,xs=[.int i, .int j]∧Q (.int (if j<i then j else i)) H):=by
 intro pins s σ H xs us Q I r h
 obtain⟨i,j,rfl,q⟩:=h
 obtain⟨u,w',rfl,⟨t,rfl⟩,⟨t',rfl⟩⟩:=vals2 r
 refine min_two_ints (I.ok.hd hc) fun h' tk k=>⟨_,H,I.kept k,?_,q⟩
 by_cases hj:j<i
 ·rw[if_pos hj,if_pos hj];exact⟨_,rfl⟩
 ·rw[if_neg hj,if_neg hj];exact⟨_,rfl⟩
theorem nI:CallR X (.type "int") (fun xs H Q=>(∃i,xs=[.int i]∧Q (.int i) H)∨∃k,xs=[.bl k]∧Q (.int (if k then 1 else 0)) H):=by
 intro pins s σ H xs us Q I r h
 rcases h with⟨i,rfl,q⟩ | ⟨k,rfl,q⟩
 ·obtain⟨u,rfl,t,rfl⟩:=vals1 r
  exact call_int_int ⟨.int i,H,I,⟨_,rfl⟩,q⟩
 ·obtain⟨u,rfl,r1⟩:=vals1 r
  cases r1
  exact call_int_bool ⟨.int (if k then 1 else 0),H,I.tok _,⟨_,rfl⟩,q⟩
end
structure ObjM (h:Heap) (x dx C:Addr) (mA:Str→Option Value):Prop where
 obj:h.get? x=some (PySem.W.instObj C dx)
 ns:h.Ns1 dx mA
 ne:dx≠x
theorem wx{h:Heap}{dx:Addr}{mA:Str→Option Value}(n:h.Ns1 dx mA):∃od,h.get? dx=some od∧∀name,PySem.W.lookIn name od=some (mA name):=by
 obtain⟨o,es,ep,ho,hd,hk,_,hm⟩:=n
 refine⟨o,ho,fun name=>?_⟩
 have e:=hm name
 unfold nsFind findBy at e
 rw[←Array.find?_toList] at e
 unfold PySem.W.lookIn
 rw[hd]
 dsimp only
 split
 ·rename_i y q
  rw[q] at e
  exact congrArg some e
 ·rename_i q
  rw[q] at e
  have a:es.toList.any (·.refKey)=false:=by
   rw[List.any_eq_false]
   intro y hy
   obtain⟨z,t,As⟩:=hk y (Array.mem_toList_iff.mp hy)
   simp[DictEntry.refKey,As]
  have a':¬es.toList.any (·.refKey)=true:=by rw[a];exact Bool.false_ne_true
  rw[if_neg a']
  exact congrArg some e
theorem ObjM.look{h:Heap}{x dx C:Addr}{mA:Str→Option Value}(I:ObjM h x dx C mA):∃od,PySem.W.InstAt h x (PySem.W.instObj C dx) C (some od)∧∀name,PySem.W.lookIn name od=some (mA name):=
 let ⟨od,ho,hl⟩:=wx I.ns
 ⟨od,⟨I.obj,rfl,rfl,ho⟩,hl⟩
section
variable{prog:Program}{w:World}{A:Around}{E:Value→Shared→Prop}{s:Shared}{K:W.Frag}{x dx C f:Addr}{mA:Str→Option Value}{name:Str}{v:Value}
end
theorem RelO.some_of{v:V}{o:Option Value}(r:RelO (some v) o):∃u,o=some u∧RelV v u:=by
 cases o with
 |none=>exact(show False from r).elim
 |some u=>exact⟨u,rfl,r⟩
section
variable{P:Program}{w:World}{H H':Hp}{h h':Heap}{a C dx:Addr}{fs Hl:List (Str×V)}
theorem AF(hok:HOk P w H h)(e:H a=some (.ins C dx fs)):∃mA,ObjM h a dx C mA∧(∀f,RelO (fs.lookup f) (mA f))∧PySem.Within mA (fs.map (·.1))∧fs.length≤1000∧H dx=some (.own a):=by
 obtain⟨d,z,ne,ob,mA,n,r,q⟩:=(show ObjOk P w H h a (.ins C dx fs) from hok a _ e)
 exact⟨mA,⟨ob,n,ne⟩,r,q,z,d⟩
end
structure Cls (K:W.Frag) (C:Addr):Prop where
 pg:PySem.W.plainGet K C Str.empty=true
 hd:PySem.W.hasDictIn K C=true
 po:PySem.W.plainOver K C=true
 sa:PySem.W.findIn K (.ref C) "__setattr__"=some (some (.builtin "object.__setattr__"))
theorem Cls.get{K:W.Frag}{C:Addr}(c:Cls K C)(f:Str):PySem.W.plainGet K C f=true:=c.pg
structure Con (K:W.Frag) (C:Addr) (f:Str) (v:V) (u:Value):Prop where
 at_:PySem.W.findIn K (.ref C) f=some (some u)
 rel:RelV v u
 get:PySem.W.specialIn K u "__get__"=some none
 cp:PySem.W.copiedNames.contains f=false
structure Meth (K:W.Frag) (C:Addr) (m:Str) (f:Addr):Prop where
 at_:PySem.W.findIn K (.ref C) m=some (some (.ref f))
 fn:PySem.W.isFn K (.ref f)=true
 kp:PySem.W.keepIn K (.ref f)=true
section
variable{X:Cx}{pins:List (Addr×Obj)}{σ:St}{H:Hp}{s:Shared}{a C dx:Addr}{fs:List (Str×V)}{f:Str}{v:V}{A:Around}{E:Value→Shared→Prop}
end
section
variable{X:Cx}{o e value:Expr}{f:Str}{pos pos' Jc:Pos}{ta tv:TE}
end
section
variable{X:Cx}{pins:List (Addr×Obj)}{σ:St}{H:Hp}{s:Shared}{A:Around}{E:Value→Shared→Prop}{Q:Value→Shared→Prop}{c:Value}{b:Bool}
inductive TyOf (K:W.Frag) (H:Hp):V→Value→Prop where
 |non:TyOf K H .non (.type "NoneType")
 |bl (x:Bool):TyOf K H (.bl x) (.type "bool")
 |int (i:Int):TyOf K H (.int i) (.type "int")
 |str (x:Str):TyOf K H (.str x) (.type "str")
 |flt (x:UInt64):TyOf K H (.flt x) (.type "float")
 |lst {a:Addr}{xs:List V}(e:H a=some (.lst xs)):TyOf K H (.ref a) (.type "list")
 |frz {a:Addr}{o:Obj}{xs:List V}(e:H a=some (.frz o (.lst xs))):TyOf K H (.ref a) (.type "list")
 |tup {a:Addr}{xs:List V}(e:H a=some (.tup xs)):TyOf K H (.ref a) (.type "tuple")
 |dK {a:Addr}{aw:List (Key×V)}(e:H a=some (.dK aw)):TyOf K H (.ref a) (.type "dict")
 |dT {a:Addr}{aw:List (List Key×V)}(e:H a=some (.dT aw)):TyOf K H (.ref a) (.type "dict")
 |ins {a C dx:Addr}{fs:List (Str×V)}(e:H a=some (.ins C dx fs)) (cl:Cls K C) (ha:PySem.W.findIn K (.ref C) "__class__"=some (some (.builtin "object.__class__")))
   (hn:PySem.W.specialIn K (.builtin "object.__class__") "__get__"=some (some (.builtin "getset_descriptor.__get__"))) (JV:PySem.W.takesIn K (.builtin "object.__class__")=some true)
   (hm:PySem.W.mroIn K C (.type "object")=some true):TyOf K H (.ref a) (.ref C)
theorem we{x:V}{u t:Value}(I:Inv X pins σ H s)(rx:RelV x u)(ty:TyOf X.K H x t)(e:PySem.W.kitOne X.K t c=some b)(h:∀tk,Q (.bool b) {s with toks:=tk}):
 wpAny (model X.prog X.w) A (call (.builtin "isinstance") [u,c]) Q E s:=by
 cases ty with
 |non=>cases (show u=Value.none from rx);exact PySem.W.kia_one PySem.W.kitx_none I.kIn True.intro e (fun z=>nomatch z) h
 |bl y=>cases (show u=Value.bool y from rx);exact PySem.W.kia_one PySem.W.kitx_bool I.kIn True.intro e (fun z=>nomatch z) h
 |int i=>obtain⟨t,q⟩:=(show∃t,u=Value.int i t from rx);cases q;exact PySem.W.kia_one PySem.W.kitx_int I.kIn True.intro e (fun z=>nomatch z) h
 |str y=>obtain⟨t,q⟩:=(show∃t,u=Value.str y t from rx);cases q;exact PySem.W.kia_one PySem.W.kitx_str I.kIn True.intro e (fun z=>nomatch z) h
 |flt y=>obtain⟨t,q⟩:=(show∃t,u=Value.float y t from rx);cases q;exact PySem.W.kia_one PySem.W.kitx_float I.kIn True.intro e (fun z=>nomatch z) h
 | @lst a xs ea=>
   cases (show u=Value.ref a from rx)
   obtain⟨_,_,n,_,h1⟩:=(show ObjOk X.prog X.w H s.heap a (.lst xs) from I.hok a _ ea)
   exact PySem.W.kia_one PySem.W.kitx_list I.kIn ⟨_,h1,rfl⟩ e (fun z=>nomatch z) h
 | @frz a ob xs ea=>
   cases (show u=Value.ref a from rx)
   obtain⟨_,_,_,n,_,h1⟩:=(show ObjOk X.prog X.w H s.heap a (.frz ob (.lst xs)) from I.hok a _ ea)
   exact PySem.W.kia_one PySem.W.kitx_list I.kIn ⟨_,h1,rfl⟩ e (fun z=>nomatch z) h
 | @tup a xs ea=>
   cases (show u=Value.ref a from rx)
   obtain⟨_,_,_,p⟩:=(show ObjOk X.prog X.w H s.heap a (.tup xs) from I.hok a _ ea)
   obtain⟨o,h1,h2,_⟩:=p
   exact PySem.W.kia_one PySem.W.kitx_tuple I.kIn ⟨o,h1,h2⟩ e (fun z=>nomatch z) h
 | @dK a aw ea=>
   cases (show u=Value.ref a from rx)
   obtain⟨_,_,vs,_,p⟩:=(show ObjOk X.prog X.w H s.heap a (.dK aw) from I.hok a _ ea)
   obtain⟨o,es,ep,h1,h2,_⟩:=p
   exact PySem.W.kia_one PySem.W.kitx_dict I.kIn ⟨o,h1,h2.1⟩ e (fun z=>nomatch z) h
 | @dT a aw ea=>
   cases (show u=Value.ref a from rx)
   obtain⟨_,_,xs,_,o,es,ep,h1,h2,_⟩:=(show ObjOk X.prog X.w H s.heap a (.dT aw) from I.hok a _ ea)
   exact PySem.W.kia_one PySem.W.kitx_dict I.kIn ⟨o,h1,h2.1⟩ e (fun z=>nomatch z) h
 | @ins a C dx fs ea cl ha hn JV hm=>
   cases (show u=Value.ref a from rx)
   obtain⟨mA,O,_⟩:=AF I.hok ea
   obtain⟨od,J,_⟩:=O.look
   exact PySem.W.kia_one (PySem.W.kitx_own (cl.get _) cl.hd ha hn JV hm) I.kIn J e (fun z=>nomatch z) h
end
structure Room (k:Nat) (A:Around):Prop where
 hd:A.handled=none
 dp:A.depth+3*k+5<recursionLimit
 un:A.units+16*k+200<cLine
theorem Room.mono{j k:Nat}{A:Around}(r:Room k A)(h:j≤k):Room j A:=⟨r.hd,by have:=r.dp;omega,by have:=r.un;omega⟩
theorem Room.deeper{k:Nat}{A:Around}(r:Room (k+1) A)(env:Env):Room k (A.deeper env):=
 ⟨r.hd,by have:=r.dp;show A.depth+1+3*k+5<_;omega,by have:=r.un;show A.units+3+16*k+200<_;omega⟩
theorem Room.depth{k:Nat}{A:Around}(r:Room k A):A.depth<recursionLimit:=by have:=r.dp;omega
theorem Room.units{k:Nat}{A:Around}(r:Room k A):A.units+64<cLine:=by have:=r.un;omega
def En:TA:=fun _ H Q=>Q [] H
def zS(ta:TE)(tr:TA):TA:=fun σ H Q=>ta σ H fun x H1=>tr σ H1 fun xs H2=>Q (x::xs) H2
section
variable{X:Cx}{e:Expr}{es:List Expr}{te:TE}{t:TA}{pos:Pos}
theorem p6:PA X [] En:=fun _ _ _ _ H Q I h=>Calls.spliced_nil ⟨[],H,I, .nil,h⟩
theorem p5(ha:PE X e te)(hr:PA X es t)(hs:starEach (e::es) X.env=(false,eval e X.env)::starEach es X.env:=by rfl):PA X (e::es) (zS te t):=by
 intro pos pins s σ H Q I h
 rw[hs]
 show wpAny _ _ (spliced ((false,eval e X.env)::backTo pos (starEach es X.env))) _ _ s
 refine Calls.spliced_cons (bY (ha pins s σ H _ I h) fun u s1 ⟨x,H1,I1,r1,q1⟩=>?_)
 exact bY (hr pos pins s1 σ H1 _ I1 q1) fun us s2 ⟨xs,H2,I2,r2,q2⟩=>⟨x::xs,H2,I2, .cons r1 r2,q2⟩
def Jb(t:TA):TE:=fun σ H Q=>t σ H fun xs H1=>xs.length≤sizeLine∧∀p,H1 p=none→Q (.ref p) (upd H1 p (.tup xs))
def I8(t:TA):TE:=fun σ H Q=>t σ H fun xs H1=>xs.length≤sizeLine∧∀p,H1 p=none→Q (.ref p) (upd H1 p (.lst xs))
theorem DY{x1}(h:PA X es t):PE X (.Tuple es x1 pos) (Jb t):=by
 intro pins s σ H Q I hq
 refine wpAny_Tuple_spliced (bY (h pos pins s σ H _ I hq) fun us s1 ⟨xs,H1,I1,r,z,q⟩=>⟨by rw[←r.length];exact z,?_⟩)
 have hf:H1 s1.heap.objs.size=none:=I1.hok.fresh (Nat.le_refl _)
 refine⟨.ref s1.heap.objs.size,upd H1 s1.heap.objs.size (.tup xs),I1.laid (t':=s1.toks) (fun b u e=>Heap.get?_push_of_some _ e) (Nat.le_refl _) ?_,rfl,q _ hf⟩
 exact⟨z,us,r,⟨_,Heap.get?_push_size _ rfl,rfl,_,rfl⟩⟩
theorem zc(h:PA X es t):PE X (.List es pos) (I8 t):=by
 intro pins s σ H Q I hq
 refine wpAny_List_spliced (bY (h pos pins s σ H _ I hq) fun us s1 ⟨xs,H1,I1,r,z,q⟩=>⟨by rw[←r.length];exact z,?_⟩)
 have hf:H1 s1.heap.objs.size=none:=I1.hok.fresh (Nat.le_refl _)
 refine⟨.ref s1.heap.objs.size,upd H1 s1.heap.objs.size (.lst xs),I1.laid (t':=s1.toks) (fun b u e=>Heap.get?_push_of_some _ e) (Nat.le_refl _) ?_,rfl,q _ hf⟩
 exact⟨z,us,0,r,Heap.get?_push_size _ rfl⟩
end
abbrev Sp:=List V→Hp→VK→XK→Prop
abbrev sS:=List Env→Hp→Shared→XK→Value→Shared→Prop
structure Env0 (P:Program) (w:World) (K:W.Frag) (mg:Str→Option Value) (base:Heap) (A:Around) (outer:List Env) (s:Shared) (H:Hp):Prop where
 frames:A.frames=some outer
 mod:Mod K mg base
 bs:∀b o,base.get? b=some o→s.heap.get? b=some o∧H b=none
 bsz:base.objs.size≤s.heap.objs.size
 funs:s.heap.FunFrames base outer
 frf:∀b∈kS outer,H b=none
 hok:HOk P w H s.heap
 bare:AllBare s.gens
def CE(outer:List Env)(P:Program)(w:World)(H:Hp)(s:Shared)(Q:VK)(u:Value)(s':Shared):Prop:=
 ∃v H',s'.os=s.os∧AllBare s'.gens∧Un (kS outer) [] H H' s.heap s'.heap∧HOk P w H' s'.heap∧RelV v u∧Q v H'
def CR(CX:sS)(outer:List Env)(P:Program)(w:World)(H:Hp)(s:Shared)(Q:VK)(E:XK)(r:Result)(s':Shared):Prop:=
 match r with
 | .ok (.ret u)=>CE outer P w H s Q u s'
 | .ok _=>False
 | .error e=>CX outer H s E e s'
structure FnOk (P:Program) (w:World) (K:W.Frag) (mg:Str→Option Value) (base:Heap) (CX:sS) (k:Nat) (f:Addr) (fd:FuncData) (ps:List Str) (sp:Sp):Prop where
 len:∀vs H Q E,sp vs H Q E→vs.length=ps.length
 run:∀(A:Around) (outer:List Env) (s:Shared) (H:Hp) (args:Args) (us:List Value) (vs:List V) (Q:VK) (E:XK),Room k A→Env0 P w K mg base A outer s H→BindsTo s fd args (ps.zip us)→Vals vs us→sp vs H Q E→
  codeAny (model P w) A (.call (.ref f) args) (CR CX outer P w H s Q E) s
theorem FnOk.mono{P:Program}{w:World}{K:W.Frag}{mg:Str→Option Value}{base:Heap}{CX:sS}{j k:Nat}{f:Addr}{fd:FuncData}{ps:List Str}{sp:Sp}(F:FnOk P w K mg base CX j f fd ps sp)(h:j≤k):
 FnOk P w K mg base CX k f fd ps sp:=⟨F.len,fun A outer s H args us vs Q E hr=>F.run A outer s H args us vs Q E (hr.mono h)⟩
section
variable{X:Cx}{pins:List (Addr×Obj)}{σ:St}{H:Hp}{s s':Shared}
theorem Inv.env0(I:Inv X pins σ H s):Env0 X.prog X.w X.K X.mg X.base X.A X.stack s H:=
 ⟨I.ok.frames,I.ok.mod,I.bs,Nat.le_trans I.ok.bsz I.sz,I.stack,I.stkFree,I.hok,I.bare⟩
theorem Inv.after{Q:VK}{u:Value}(I:Inv X pins σ H s)(h:CE X.stack X.prog X.w H s Q u s'):EP X pins σ Q u s':=by
 obtain⟨v,H',os,bare,un,hok,r,q⟩:=h
 obtain⟨hh,g,d,t,IE⟩:=s'
 obtain rfl:IE=s.os:=os
 exact⟨v,H',I.call (h':=hh) (g':=g) (d':=d) (t':=t) (ch:=[]) un hok bare (fun b z=>absurd z (by simp)),r,q⟩
end
def Gs(sp:Sp)(BV:List V)(E:XK)(t:TA):TE:=fun σ H Q=>t σ H fun vs H1=>sp (vs++BV) H1 Q E
def Binds(K:W.Frag)(fd:FuncData)(ps:List Str)(ds:List Value):Prop:=
 ∀(s:Shared) (us:List Value),K.In s.heap→(us++ds).length=ps.length→BindsTo s fd ⟨us,[]⟩ (ps.zip (us++ds))
theorem Binds.all{K:W.Frag}{fd:FuncData}{ps:List Str}(h:∀us:List Value,us.length=ps.length→bindArgs fd ⟨us,[]⟩=pure (ps.zip us)):Binds K fd ps []:=fun s us _ hl=>by
 rw[List.append_nil] at hl⊢
 exact .of_eq (h us hl)
def Passes(CX:sS)(X:Cx)(E:XK):Prop:=∀(pins:List (Addr×Obj)) (σ:St) (H:Hp) (s:Shared) (e:Value) (s':Shared),Inv X pins σ H s→CX X.stack H s E e s'→X.xe e s'
section
variable{X:Cx}{CX:sS}{k:Nat}{f C:Addr}{fd:FuncData}{ps:List Str}{sp:Sp}{BV:List V}{ds:List Value}{E:XK}{x m:Str}{p pos apos:Pos}{e o:Expr}{es:List Expr}{ta:TE}{t:TA}
theorem Ed{pins:List (Addr×Obj)}{σ:St}{H:Hp}{s:Shared}{Q:VK}{us:List Value}{vs:List V}(F:FnOk X.prog X.w X.K X.mg X.base CX k f fd ps sp)(hr:Room k X.A)(hb:Binds X.K fd ps ds)(hd:Vals BV ds)(hx:Passes CX X E)
 (I:Inv X pins σ H s)(r:Vals vs us)(h:sp (vs++BV) H Q E):wpAny (model X.prog X.w) X.A (call (.ref f) us) (EP X pins σ Q) X.xe s:=by
 have r2:Vals (vs++BV) (us++ds):=r.append hd
 have hl:(us++ds).length=ps.length:=by rw[←r2.length];exact F.len _ _ _ _ h
 refine wpAny_call (codeAny_mono (F.run X.A X.stack s H ⟨us,[]⟩ (us++ds) (vs++BV) Q E hr I.env0 (hb s us I.kIn hl) r2 h) fun r s' hq=>?_)
 cases r with
 |error e=>exact hx pins σ H s e s' I hq
 |ok fl=>
  cases fl with
  |ret u=>exact I.after hq
  |next=>exact False.elim hq
  |brk=>exact False.elim hq
  |cont=>exact False.elim hq
theorem Bc(F:FnOk X.prog X.w X.K X.mg X.base CX k f fd ps sp)(hr:Room k X.A)(hg:Gl X x)(hm:X.mg x=some (.ref f))(hk:PySem.W.keepIn X.K (.ref f)=true)(hb:Binds X.K fd ps ds)(hd:Vals BV ds)(hx:Passes CX X E)
 (ha:PA X (e::es) t)(pE:(x==("__debug__":Str))=false:=by decide)(he:starEach (e::es) X.env=(false,eval e X.env)::starEach es X.env:=by rfl)(nW:(backTo pos (starEach es X.env)).any (·.1)=false:=by rfl):
 PE X (.Call (.Name x p) (e::es) [] pos) (Gs sp BV E t):=by
 intro pins s σ H Q I h
 refine wpAny_Call_Name_kw (u5 I hg hm ?_ pE)
 refine PySem.W.callWith_K (h₀:=X.base) I.ok.mod.kin hk (bY (ha pos pins s σ H _ I h) fun us s1 ⟨vs,H1,I1,r,q⟩=>⟨I1.kIn,?_⟩) he nW
 exact Ed F hr hb hd hx I1 r q
structure Mk (K:W.Frag) (C f:Addr):Prop where
 makes:PySem.W.makesIn K C=true
 init:PySem.W.findIn K (.ref C) "__init__"=some (some (.ref f))
 fn:PySem.W.isFn K (.ref f)=true
 kp:PySem.W.keepIn K (.ref C)=true
end
section
variable{X:Cx}{CX:sS}{k:Nat}{f C:Addr}{fd:FuncData}{ps ks:List Str}{sp:Sp}{E:XK}{x m:Str}{p pos apos LK:Pos}{e o:Expr}{es:List Expr}{Me:List Keyword}{te ta:TE}{t tk:TA}{nm:Option Str}
structure KBinds (K:W.Frag) (fd:FuncData) (ps ks:List Str) (g:List Value→List Value→List Value) (gV:List V→List V→List V):Prop where
 to:∀(s:Shared) (us ws:List Value),K.In s.heap→(g us ws).length=ps.length→BindsTo s fd ⟨us,ks.zip ws⟩ (ps.zip (g us ws))
 rel:∀{vs:List V}{us:List Value}{zs:List V}{ws:List Value},Vals vs us→Vals zs ws→Vals (gV vs zs) (g us ws)
variable{g:List Value→List Value→List Value}{gV:List V→List V→List V}
end
structure FnScope (N P:List Str) (sc:Scope):Prop where
 kind:sc.kind= .function
 co:sc.isCoroutine=false
 gen:sc.isGenerator=false
 nd:N.Nodup
 pre:N.take P.length=P
 par:∀x∈P,sc.names.lookup x=some .local∨sc.names.lookup x=some .cell
 nofree:∀y∈sc.names,y.2≠ .free
theorem nG{kindOf:Str→Option NameKind}{x:Str}:∀{binds:List (Str×Value)}{m:Str→Option Value},(∀v,(x,v)∉binds)→bindL kindOf binds m x=m x
 |[],_,_=>rfl
 |(n,v)::r,m,h=>by
  unfold bindL
  rw[nG fun w hw=>h w (List.mem_cons_of_mem _ hw)]
  split
  ·have:x≠n:=by rintro rfl;exact h v List.mem_cons_self
   simp[this]
  ·rfl
theorem nB{kindOf:Str→Option NameKind}{x:Str}:∀{binds:List (Str×Value)}{m:Str→Option Value},(∀v,(x,v)∉binds)→bindC kindOf binds m x=m x
 |[],_,_=>rfl
 |(n,v)::r,m,h=>by
  unfold bindC
  rw[nB fun w hw=>h w (List.mem_cons_of_mem _ hw)]
  split
  ·rfl
  ·have:x≠n:=by rintro rfl;exact h v List.mem_cons_self
   simp[this]
theorem nE{kindOf:Str→Option NameKind}{x:Str}{v:Value}:∀{P:List Str}{vs:List Value}{i:Nat}{m:Str→Option Value},P.Nodup→P[i]? =some x→vs[i]? =some v→kindOf x=some .local→
 bindL kindOf (P.zip vs) m x=some v
 |[],_,_,_,_,h,_,_=>by simp at h
 |_::_,[],_,_,_,_,h,_=>by simp at h
 |p::P,w::vs,0,m,nd,h1,h2,hk=>by
  simp at h1 h2;subst h1;subst h2
  show bindL kindOf ((p,w)::P.zip vs) m p=_
  unfold bindL
  rw[nG fun v hv=>(List.nodup_cons.mp nd).1 (List.of_mem_zip hv).1,if_pos hk]
  simp
 |p::P,w::vs,i+1,m,nd,h1,h2,hk=>by
  show bindL kindOf ((p,w)::P.zip vs) m x=_
  unfold bindL
  exact nE (i:=i) (List.nodup_cons.mp nd).2 (by simpa using h1) (by simpa using h2) hk
theorem nA{kindOf:Str→Option NameKind}{x:Str}{v:Value}:∀{P:List Str}{vs:List Value}{i:Nat}{m:Str→Option Value},P.Nodup→P[i]? =some x→vs[i]? =some v→kindOf x≠some .local→
 bindC kindOf (P.zip vs) m x=some v
 |[],_,_,_,_,h,_,_=>by simp at h
 |_::_,[],_,_,_,_,h,_=>by simp at h
 |p::P,w::vs,0,m,nd,h1,h2,hk=>by
  simp at h1 h2;subst h1;subst h2
  show bindC kindOf ((p,w)::P.zip vs) m p=_
  unfold bindC
  rw[nB fun v hv=>(List.nodup_cons.mp nd).1 (List.of_mem_zip hv).1,if_neg hk]
  simp
 |p::P,w::vs,i+1,m,nd,h1,h2,hk=>by
  show bindC kindOf ((p,w)::P.zip vs) m x=_
  unfold bindC
  exact nA (i:=i) (List.nodup_cons.mp nd).2 (by simpa using h1) (by simpa using h2) hk
def start(N:List Str)(vs:List V):St:=vs.map some++List.replicate (N.length - vs.length) none
def fF(CX:sS)(P:Program)(w:World)(K:W.Frag)(mg:Str→Option Value)(base:Heap)(N:List Str)(qual:Str)(scope:Scope)(f:Addr)(cd:Value)(A:Around)(outer:List Env)(s:Shared)(H:Hp)(E:XK):Cx where
 prog:=P
 w:=w
 K:=K
 mg:=mg
 base:=base
 A:=A.deeper (envOfC qual scope s.heap.objs.size f cd)
 N:=N
 s₀:=s
 H₀:=H
 env:=envOfC qual scope s.heap.objs.size f cd
 outer:=outer
 stack:=envOfC qual scope s.heap.objs.size f cd::outer
 ex:=[]
 calm:=true
 fn:=fun _=>true
 pn:=[]
 xe:=fun e s'=>wpAny (model P w) (A.deeper (envOfC qual scope s.heap.objs.size f cd)) (leaving (envOfC qual scope s.heap.objs.size f cd) e) (fun _ Gn=>CX outer H s E e Gn) (fun e' Gn=>CX outer H s E e' Gn) s'
theorem qN{sc:Scope}{n:Nat}{x:Str}(h:sc.names.lookup x=some .cell):∃c,(cellsFrom n sc.names []).lookup x=some c:=by
 have q:=PySem.W.cellsFrom_some sc.names n [] (.inl h)
 exact Option.isSome_iff_exists.mp q
theorem wb{CX:sS}{P:Program}{w:World}{K:W.Frag}{mg:Str→Option Value}{base:Heap}{N ps:List Str}{qual:Str}{scope:Scope}{f:Addr}{cd:Value}{A:Around}{outer:List Env}{s s1:Shared}{H:Hp}{E:XK}{us:List Value}{vs:List V}
 (S:FnScope N ps scope)(hd:A.handled=none)(e0:Env0 P w K mg base A outer s H)(hl:vs.length=ps.length)(r:Vals vs us)
 (x:InCallC s s.heap.objs.size (bindL (envOfC qual scope s.heap.objs.size f cd).kindOf (ps.zip us) fun _=>none) (cellsFrom (s.heap.objs.size+1) scope.names []) (bindC (envOfC qual scope s.heap.objs.size f cd).kindOf (ps.zip us) fun _=>none) s1):
 Inv (fF CX P w K mg base N qual scope f cd A outer s H E) [] (start N vs) H s1:=by
 have nW:ps.length≤N.length:=by have:=congrArg List.length S.pre;rw[List.length_take] at this;omega
 obtain⟨h1,tk,rfl,hk⟩:=x.done
 have FO:∀b:Addr,b∉(fF CX P w K mg base N qual scope f cd A outer s H E).ex:=fun b z=>absurd (show b∈([]:List Addr) from z) (by simp)
 refine⟨⟨e0.mod,S.kind,rfl,rfl,Nat.le_refl _,fun y z c h1 h2=>?_,fun y hy=>?_,fun y c _ h=>?_,fun _=>hd,Around.frames_deeper e0.frames, .inr ⟨rfl,rfl⟩,fun b z=>absurd z (FO b),e0.bs,e0.bsz,fun b _ _=>FO b,fun b z=>absurd z (FO b),e0.funs,e0.frf⟩,
  rfl,e0.bare,Un.kept hk,⟨_,x.toInCall.ns,fun i y v h1 h2 h3=>?_⟩,fun y c h=>⟨_,x.cell y c h⟩,e0.hok.fresh (Nat.le_refl _),fun y c h=>?_,fun p hp=>absurd (show p∈([]:List (Addr×Obj)) from hp) (by simp),e0.hok.kept hk,?_⟩
 ·exact name_of_addr x.apart (PySem.mem_of_lookup h1) (PySem.mem_of_lookup h2)
 ·have hy:scope.names.lookup y=some .cell∨scope.names.lookup y=some .free:=hy
  rcases hy with hy | hy
  ·exact qN hy
  ·exact absurd rfl (S.nofree _ (PySem.mem_of_lookup hy))
 ·exact Nat.le_of_lt (x.above y c (PySem.mem_of_lookup h))
 ·have hi:i<vs.length:=by
   unfold start at h2
   by_cases hi:i<vs.length
   ·exact hi
   ·rw[List.getElem?_append_right (by simpa using hi)] at h2
    rw[List.getElem?_replicate] at h2
    split at h2<;>cases h2
  have ha:vs[i]? =some v:=by
   unfold start at h2
   rw[List.getElem?_append_left (by simpa using hi),List.getElem?_map] at h2
   cases e:vs[i]? with
   |none=>rw[e] at h2;cases h2
   |some a=>rw[e] at h2;cases h2;rfl
  obtain⟨u,hu,rv⟩:=r.get ha
  have hp:ps[i]? =some y:=by
   rw[←S.pre,List.getElem?_take_of_lt (by omega)];exact h1
  have J4:ps.Nodup:=by rw[←S.pre];exact S.nd.sublist (List.take_sublist _ _)
  refine⟨u,rv,?_⟩
  rcases S.par y (List.mem_of_getElem? hp) with k | k
  ·exact .inl ⟨k,nE J4 hp hu k⟩
  ·obtain⟨c,e⟩:=qN (n:=s.heap.objs.size+1) k
   refine .inr ⟨.inl k,c,e,?_⟩
   have q:=x.cell y c e
   rw[nA J4 hp hu (by show scope.names.lookup y≠_;rw[k];decide)] at q
   exact q
 ·exact e0.hok.fresh (Nat.le_of_lt (x.above y c (PySem.mem_of_lookup h)))
 ·unfold start
  show _=N.length
  rw[List.length_append,List.length_map,List.length_replicate]
  omega
theorem E4{CX:sS}{P:Program}{w:World}{K:W.Frag}{mg:Str→Option Value}{base:Heap}{k:Nat}{f:Addr}{name qual:Str}{params:Arguments}{body:List Stmt}{scope:Scope}{dV kV doc pm cu ct oc:Value}{an od:Option Addr}
 {Cg:Array (Option Value)}{N ps:List Str}{sp:Sp}(lk:K.lookup f=some ⟨oc,od, .func (PySem.W.fnOf name qual params body scope dV kV doc pm an cu ct),Cg⟩)(uV:PySem.W.codeIn K cu qual=true)(S:FnScope N ps scope)
 (len:∀vs H Q E,sp vs H Q E→vs.length=ps.length)
 (rh:∀(A:Around) (outer:List Env) (s:Shared) (H:Hp) (vs:List V) (Q:VK) (E:XK),Room k (A.deeper (envOfC qual scope s.heap.objs.size f cu))→sp vs H Q E→
  ∃t,PSs (fF CX P w K mg base N qual scope f cu A outer s H E) body t∧t {nx:=fun _ H'=>Q .non H',rt:=Q} (start N vs) H):
 FnOk P w K mg base CX (k+1) f (PySem.W.fnOf name qual params body scope dV kV doc pm an cu ct) ps sp:=by
 refine⟨len,fun A outer s H args us vs Q E hr e0 hb r B8=>?_⟩
 have hl:=len _ _ _ _ B8
 have KX:K.In s.heap:=e0.mod.kin.keeps fun b o e=>(e0.bs b o e).1
 have lim:s.heap.NoLimit:=e0.mod.nolimit.keeps fun b o e=>(e0.bs b o e).1
 have Fi:∀y∈ps.zip us,scope.names.lookup y.1=some .local∨(scope.names.lookup y.1=some .cell∧((cellsFrom (s.heap.objs.size+1) scope.names []).lookup y.1).isSome=true):=fun⟨n,v⟩ hy=>by
  rcases S.par n (List.of_mem_zip hy).1 with q | q
  ·exact .inl q
  ·exact .inr ⟨q,PySem.W.cellsFrom_some _ _ _ (.inl q)⟩
 refine codeAny_call_function hr.depth (KX _ _ lk) rfl S.co S.gen rfl (PySem.W.codeRec_of KX uV) (hb _ _ _ _ ?_)
 refine wpAny_newFunctionEnv_cells S.kind Fi fun env he s1 x=>?_
 subst he
 refine⟨lim.keeps x.toInCall.keep,codeAny_func ?_⟩
 obtain⟨t,ht,hq⟩:=rh A outer s H vs Q E (hr.deeper _) B8
 have I:Inv (fF CX P w K mg base N qual scope f cu A outer s H E) [] (start N vs) H s1:=wb S hr.hd e0 hl r x
 refine wpAny_mono (ht [] s1 (start N vs) H _ I hq) (fun fl s' hs=>?_) fun e s' hs=>hs
 have fin:∀{σ':St}{H':Hp}{v:V}{u:Value},Inv (fF CX P w K mg base N qual scope f cu A outer s H E) [] σ' H' s'→RelV v u→Q v H'→CE outer P w H s Q u s':=
  fun {σ' H' v u} J rv q=>⟨v,H',J.os,J.bare,J.base,J.hok,rv,q⟩
 cases fl with
 |ret u=>
  obtain⟨v,σ',H',J,rv,q⟩:=hs
  exact fin J rv q
 |next=>
  obtain⟨σ',H',J,q⟩:=hs
  exact fin (v:=V.non) (u:=Value.none) J rfl q
 |brk=>
  obtain⟨_,_,_,q⟩:=hs
  exact False.elim q
 |cont=>
  obtain⟨_,_,_,q⟩:=hs
  exact False.elim q
section
variable{X:Cx}{x:Str}{p pos:Pos}{e:Expr}{es:List Expr}{t:TA}{id T:String}{r:List V→Hp→VK→Prop}
def IV(r:List V→Hp→VK→Prop)(t:TA):TE:=fun σ H Q=>t σ H fun vs H1=>r vs H1 Q
theorem y_(hc:CallR X (.builtin id) r)(hg:Gl X x)(hm:X.mg x=none)(hv:bootBuiltins x=some (.builtin id))(ha:PA X (e::es) t)(hn:x≠"__name__":=by decide)(pE:(x==("__debug__":Str))=false:=by decide)
 (he:starEach (e::es) X.env=(false,eval e X.env)::starEach es X.env:=by rfl)(nW:(backTo pos (starEach es X.env)).any (·.1)=false:=by rfl):PE X (.Call (.Name x p) (e::es) [] pos) (IV r t):=by
 intro pins s σ H Q I h
 refine wpAny_Call_Name_kw (eV I hg hm hv ?_ hn pE)
 exact PyProof.Rows.callWith_builtin1 (bY (ha pos pins s σ H _ I h) fun us s1 ⟨vs,H1,I1,r1,q1⟩=>hc pins s1 σ H1 vs us Q I1 r1 q1) he nW
theorem wQ(hc:CallR X (.type T) r)(hg:Gl X x)(hm:X.mg x=none)(hv:bootBuiltins x=some (.type T))(ha:PA X (e::es) t)(hn:x≠"__name__":=by decide)(pE:(x==("__debug__":Str))=false:=by decide)
 (he:starEach (e::es) X.env=(false,eval e X.env)::starEach es X.env:=by rfl)(nW:(backTo pos (starEach es X.env)).any (·.1)=false:=by rfl):PE X (.Call (.Name x p) (e::es) [] pos) (IV r t):=by
 intro pins s σ H Q I h
 refine wpAny_Call_Name_kw (eV I hg hm hv ?_ hn pE)
 exact PyProof.Rows.callWith_type1 (bY (ha pos pins s σ H _ I h) fun us s1 ⟨vs,H1,I1,r1,q1⟩=>hc pins s1 σ H1 vs us Q I1 r1 q1) he nW
end
end L2
namespace HT
open PySem PyProof.Rows
section
open PySem.SeqAt
open PySem.AutoSeq1 (wpAny_loadPart')
open PySem.MeetsSeq PySem.MeetsSeq2 PySem.MeetsSeq3
end
section
variable{prog:Program}{w:World}{A:Around}{E:Value→Shared→Prop}{s:Shared}
theorem cat_tup{t b:Addr}{vs ws:List Value}{Q:Value→Shared→Prop}(ht:IsTup s.heap t vs.toArray)(hb:IsTup s.heap b ws.toArray)(hv:vs≠[])
 (h1:ws=[]→Q (.ref t) s)(h2:ws≠[]→Q (.ref s.heap.objs.size) {s with heap:=s.heap.push {cls:= .type "tuple",data:= .seq (vs++ws).toArray} })
 (hsz:vs.length+ws.length≤sizeLine):wpAny (model prog w) A (binaryOp .Add (.ref t) (.ref b)) Q E s:=by
 obtain⟨⟨cls,dd,data,sl⟩,ho,hc,n,hd⟩:=id ht
 obtain⟨⟨Hg,Ah,data2,G4⟩,CZ,CN,n2,hd2⟩:=id hb
 simp only at hc hd CN hd2
 subst hc hd CN hd2
 have e:vs.toArray++ws.toArray=(vs++ws).toArray:=by simp
 by_cases hw:ws=[]
 ·exact concat_meets ⟨_,ho,rfl⟩ ⟨_,CZ,rfl⟩ noFill_tuple_add seq_tuple_add PySem.F.slot_tuple_add PySem.F.entry_tuple_add (PySem.F.args_tuple_add_2 _ _)
   (tuple_addW1 t b vs.toArray ws.toArray n n2 dd Ah sl G4 (by simpa using hv) (by simp[hw])) ⟨ho,CZ,h1 hw⟩
 ·refine concat_meets ⟨_,ho,rfl⟩ ⟨_,CZ,rfl⟩ noFill_tuple_add seq_tuple_add PySem.F.slot_tuple_add PySem.F.entry_tuple_add (PySem.F.args_tuple_add_2 _ _)
   (tuple_addW2 t b vs.toArray ws.toArray n n2 dd Ah sl G4 (by simpa using hv) (by simpa using hw) (by rw[List.size_toArray,List.size_toArray];exact hsz)) ⟨ho,CZ,?_⟩
  rw[e]
  exact h2 hw
def sIx(n d:Nat):Option Int→Nat
 |none=>d
 |some v=>if v<0 then(v+(n:Int)).toNat else min v.toNat n
theorem sIx_le(n d:Nat)(hd:d≤n)(o:Option Int):sIx n d o≤n:=by
 cases o with
 |none=>exact hd
 |some v=>
  show (if v<0 then(v+(n:Int)).toNat else min v.toNat n)≤n
  by_cases hv:v<0
  ·rw[if_pos hv];omega
  ·rw[if_neg hv];exact Nat.min_le_right _ _
theorem clip_eq(v:Int)(n d:Nat):(if v<0 then max (v+(n:Int)) 0 else min v (n:Int))=((sIx n d (some v):Nat):Int):=by
 show (if v<0 then max (v+(n:Int)) 0 else min v (n:Int))=(((if v<0 then(v+(n:Int)).toNat else min v.toNat n):Nat):Int)
 by_cases hv:v<0
 ·simp only[if_pos hv];omega
 ·simp only[if_neg hv];omega
theorem adjust_gen(lo hi:Option Int)(n:Nat):Builtin.Slice.sliceAdjust lo hi 1 (n:Int)=(((sIx n 0 lo:Nat):Int),((sIx n n hi:Nat):Int)):=by
 have h1:¬((1:Int)<0):=by omega
 unfold Builtin.Slice.sliceAdjust
 simp only[h1,if_false]
 refine Prod.ext ?_ ?_
 ·cases lo with
  |none=>rfl
  |some v=>exact clip_eq v n 0
 ·cases hi with
  |none=>rfl
  |some v=>exact clip_eq v n n
theorem places_gen(i j:Nat):Builtin.Slice.slicePlaces (i:Int) (j:Int) 1=j - i:=by
 unfold Builtin.Slice.slicePlaces
 have h1:(1:Int)>0:=by omega
 simp only[h1,if_true,Int.ediv_one]
 split<;>omega
theorem slicePart_{v:Value}{o:Option Int}{Q:Option Int→Shared→Prop}(p:IsPart v o)(h:Q o s):wpAny (model prog w) A (Builtin.Slice.slicePartIndex v) Q E s:=by
 cases p with
 |none=>exact slicePart_none h
 |int i t=>exact slicePart_int h
theorem sliceApplied_gen{sl:Addr}{vl vu:Value}{lo hi:Option Int}{n:Nat}{Q:Int×Int×Nat→Shared→Prop}(hs:s.heap.IsSliceOf sl vl vu .none)(pl:IsPart vl lo)(pu:IsPart vu hi)
 (h:Q (((sIx n 0 lo:Nat):Int),1,sIx n n hi - sIx n 0 lo) s):wpAny (model prog w) A (Builtin.Slice.sliceApplied (.ref sl) (pure (n:Int))) Q E s:=by
 obtain⟨os,yn,GQ,B2⟩:=id hs
 unfold Builtin.Slice.sliceApplied Builtin.Slice.sliceFields
 refine wpAny_bind (wpAny_bind (wpAny_field yn B2 (x:=vl) rfl (wpAny_bind (wpAny_field yn B2 (x:=vu) rfl (wpAny_bind (wpAny_field yn B2 (x:= .none) rfl (wpAny_pure ?_)))))))
 refine wpAny_bind (slicePart_none ?_)
 show wpAny _ _ (if ((1:Int)==0)=true then _ else _) _ _ s
 rw[if_neg (by decide)]
 refine wpAny_bind (slicePart_ pl (wpAny_bind (slicePart_ pu (wpAny_bind (wpAny_pure ?_)))))
 show wpAny _ _ (match Builtin.Slice.sliceAdjust lo hi 1 (n:Int) with | (lo,hi)=>pure (lo,(1:Int),Builtin.Slice.slicePlaces lo hi 1)) _ _ s
 rw[adjust_gen lo hi n]
 show wpAny _ _ (pure (((sIx n 0 lo:Nat):Int),(1:Int),Builtin.Slice.slicePlaces ((sIx n 0 lo:Nat):Int) ((sIx n n hi:Nat):Int) 1)) _ _ s
 rw[places_gen]
 exact wpAny_pure h
theorem pick_gen(xs:Array Value)(i k:Nat):((List.range k).filterMap fun(m:Nat)=>xs[((i:Int)+(m:Int)*1).toNat]?).toArray=((xs.toList.drop i).take k).toArray:=by
 have e:(fun (m:Nat)=>xs[((i:Int)+(m:Int)*1).toNat]?)=fun m=>xs[i+m]? :=by
  funext m
  have:((i:Int)+(m:Int)*1).toNat=i+m:=by omega
  rw[this]
 rw[e]
 have:=pick_run xs i k
 rw[List.filterMap_map] at this
 have e2:((fun x=>xs[x]?)∘fun x=>i+x)=fun m=>xs[i+m]? :=rfl
 rw[e2] at this
 rw[this]
theorem getItem_tuple_cut{t sl:Addr}{items:Array Value}{vl vu:Value}{lo hi:Option Int}{Q:Value→Shared→Prop}(ht:IsTup s.heap t items)(hs:s.heap.IsSliceOf sl vl vu .none)(pl:IsPart vl lo)(pu:IsPart vu hi)
 (hw:¬(sIx items.size 0 lo=0∧sIx items.size items.size hi=items.size))
 (h:Q (.ref s.heap.objs.size) {s with heap:=s.heap.push {cls:= .type "tuple",data:= .seq ((items.toList.drop (sIx items.size 0 lo)).take (sIx items.size items.size hi - sIx items.size 0 lo)).toArray} })
 (hsz:items.size≤sizeLine):wpAny (model prog w) A (getItem (.ref t) (.ref sl)) Q E s:=by
 have uX:sizeOk (.seq ((items.toList.drop (sIx items.size 0 lo)).take (sIx items.size items.size hi - sIx items.size 0 lo)).toArray):=by
  show ((items.toList.drop (sIx items.size 0 lo)).take (sIx items.size items.size hi - sIx items.size 0 lo)).toArray.size≤sizeLine
  rw[List.size_toArray,List.length_take,List.length_drop,Array.length_toList]
  omega
 have hj:sIx items.size items.size hi≤items.size:=sIx_le _ _ (Nat.le_refl _) hi
 obtain⟨os,yn,GQ,B2⟩:=id hs
 have Hs:s.TypeIs (.ref sl) "slice":=⟨os,yn,GQ⟩
 unfold getItem
 try with_reducible refine wpAny_holding ?_
 first | refine wpAny_bind (wpAny_pure ?_) | skip
 refine wpAny_bind (wpAny_sequenceKey ht.typeIs (by decide) ?_)
 refine wpAny_bind (wpAny_callSpecial?_slot (name:=Str.ofString "__getitem__") ht.typeIs PyProof.Rows.slot_tuple_getitem
  (wpAny_call_entry PyProof.Rows.slot_tuple_getitem ht.typeIs entry_tuple_getitem ?_ (args_tuple_getitem _ _)))
 show wpAny _ _ (Builtin.Tuple.tupleItemsOf (.ref t)>>=_) _ _ s
 refine wpAny_bind (tupleItemsOf_ ht ?_)
 refine wpAny_bind (wpAny_typeOf Hs ?_)
 rw[if_pos (by decide)]
 refine wpAny_bind (sliceApplied_gen hs pl pu ?_)
 have v9:¬((((sIx items.size 0 lo:Nat):Int)==0&&(1:Int)==1&&(sIx items.size items.size hi - sIx items.size 0 lo)==items.size)=true):=by
  intro q
  rw[Bool.and_eq_true,Bool.and_eq_true] at q
  have q1:((sIx items.size 0 lo:Nat):Int)=0:=eq_of_beq q.1.1
  have q2:sIx items.size items.size hi - sIx items.size 0 lo=items.size:=eq_of_beq q.2
  exact hw ⟨by omega,by omega⟩
 show wpAny _ _ (if (((sIx items.size 0 lo:Nat):Int)==0&&(1:Int)==1&&(sIx items.size items.size hi - sIx items.size 0 lo)==items.size)=true then _ else _) _ _ s
 rw[if_neg v9,pick_gen]
 first
  |exact wpAny_bind (m:=Builtin.Tuple.tupleExact _) (wpAny_newObj_type (wpAny_pure ⟨_,rfl,wpAny_pure h⟩) uX)
  |exact wpAny_bind (m:=Builtin.Tuple.tupleExact _) (wpAny_newObj_type (wpAny_bind (wpAny_pure (wpAny_pure ⟨_,rfl,wpAny_pure h⟩))) uX)
  |exact wpAny_bind (wpAny_bind (m:=Builtin.Tuple.tupleExact _) (wpAny_newObj_type (wpAny_pure (wpAny_pure ⟨_,rfl,wpAny_pure h⟩)) uX))
  |exact wpAny_bind (wpAny_bind (m:=Builtin.Tuple.tupleExact _) (wpAny_newObj_type (wpAny_pure ⟨_,rfl,wpAny_pure h⟩) uX))
end
end HT
namespace L2
open PySem PySem.Spec PyProof.Rows
abbrev TO:=St→Hp→(Option Int→Hp→Prop)→Prop
def PO(X:Cx)(e:Option Expr)(t:TO):Prop:=
 ∀(pins:List (Addr×Obj)) (s:Shared) (σ:St) (H:Hp) (Q:Option Int→Hp→Prop),Inv X pins σ H s→t σ H Q→
  wpAny (model X.prog X.w) X.A (evalPart e X.env) (fun u s'=>∃o H',Inv X pins σ H' s'∧IsPart u o∧Q o H') X.xe s
def BH:TO:=fun _ H Q=>Q none H
def Gy(t:TE):TO:=fun σ H Q=>t σ H fun x H1=>∃i,x= .int i∧Q (some i) H1
theorem intsAre_of{ns:List Int}:∀{us:List Value},Vals (ns.map V.int) us→IntsAre us ns:=by
 induction ns with
 |nil=>intro us r;rw[List.map_nil] at r;cases r;exact .nil
 |cons n ns ih=>
  intro us r
  rw[List.map_cons] at r
  cases r with
  |cons r1 r2=>
   obtain⟨t,e⟩:=r1
   subst e
   exact .cons n t (ih r2)
section
variable{X:Cx}{e:Expr}{te:TE}{lo hi:Option Expr}{tl th:TO}{pos p2:Pos}
theorem Bh:PO X none BH:=by
 intro pins s σ H Q I h
 rw[evalPart_none]
 exact wpAny_pure ⟨none,H,I, .none,h⟩
theorem Bi(h:PE X e te):PO X (some e) (Gy te):=by
 intro pins s σ H Q I hw
 rw[evalPart_some]
 refine bY (h pins s σ H _ I hw) fun u s1 ⟨x,H1,I1,r1,q1⟩=>?_
 obtain⟨i,rfl,q⟩:=q1
 obtain⟨t,rfl⟩:=r1
 exact⟨some i,H1,I1, .int i t,q⟩
def SlR(X:Cx)(r:V→Option Int→Option Int→Hp→VK→Prop):Prop:=
 ∀(pins:List (Addr×Obj)) (s:Shared) (σ:St) (H:Hp) (x:V) (v vl vu:Value) (lo hi:Option Int) (sl:Addr) (Q:VK),Inv X pins σ H s→RelV x v→s.heap.IsSliceOf sl vl vu .none→IsPart vl lo→IsPart vu hi→r x lo hi H Q→
  ∃T id,typeLookup (.type T) "__getitem__"=pure (some (.builtin id))∧s.TypeIs v T∧wpAny (model X.prog X.w) X.A (getItem v (.ref sl)) (EP X pins σ Q) X.xe s
theorem SlR.or{r r':V→Option Int→Option Int→Hp→VK→Prop}(h:SlR X r)(h':SlR X r'):SlR X (fun x lo hi H Q=>r x lo hi H Q∨r' x lo hi H Q):=by
 intro pins s σ H x v vl vu lo hi sl Q I rx hs pl pu q
 rcases q with q | q
 ·exact h pins s σ H x v vl vu lo hi sl Q I rx hs pl pu q
 ·exact h' pins s σ H x v vl vu lo hi sl Q I rx hs pl pu q
def LU(r:V→Option Int→Option Int→Hp→VK→Prop)(te:TE)(tl th:TO):TE:=fun σ H Q=>te σ H fun x H1=>tl σ H1 fun l H2=>th σ H2 fun u H3=>r x l u H3 Q
theorem zd{r:V→Option Int→Option Int→Hp→VK→Prop}(hr:SlR X r)(he:PE X e te)(hl:PO X lo tl)(hu:PO X hi th):PE X (.Subscript e (.Slice lo hi none p2) pos) (LU r te tl th):=by
 intro pins s σ H Q I h
 refine Subscript_ (bY (he pins s σ H _ I h) fun v s1 ⟨x,H1,I1,r1,q1⟩=>?_)
 refine wpAny_Slice (bY (hl pins s1 σ H1 _ I1 q1) fun vl s2 ⟨l,H2,I2,pl,q2⟩=>bY (hu pins s2 σ H2 _ I2 q2) fun vu s3 ⟨u,H3,I3,pu,q3⟩=>?_)
 rw[evalPart_none]
 refine wpAny_pure ?_
 have I4:Inv X pins σ H3 {s3 with heap:=s3.heap.push {cls:= .type "slice",data:= .fields #[vl,vu, .none]} }:=I3.kept (t':=s3.toks) fun b ob q=>Heap.get?_push_of_some _ q
 obtain⟨T,id,hT,ht,hg⟩:=hr pins {s3 with heap:=s3.heap.push {cls:= .type "slice",data:= .fields #[vl,vu, .none]} } σ H3 x v vl vu l u s3.heap.objs.size Q I4 r1 (Heap.IsSliceOf.new ..) pl pu q3
 show wpAny (model X.prog X.w) X.A (subscriptTail e (.Slice lo hi none p2) v (.ref s3.heap.objs.size)) (EP X pins σ Q) X.xe {s3 with heap:=s3.heap.push {cls:= .type "slice",data:= .fields #[vl,vu, .none]} }
 exact tail_any (ops:=[.ref s3.heap.objs.size,v]) ht hT hg (by with_unfolding_all rfl)
def qQ(xs:List V)(lo hi:Option Int):List V:=(xs.drop (HT.sIx xs.length 0 lo)).take (HT.sIx xs.length xs.length hi - HT.sIx xs.length 0 lo)
theorem j3(xs:List V)(lo hi:Option Int):(qQ xs lo hi).length≤xs.length:=by
 unfold qQ
 rw[List.length_take,List.length_drop]
 omega
def IL(K:W.Frag):V→Option Int→Option Int→Hp→VK→Prop:=fun x lo hi H Q=>∃a xs,x= .ref a∧SqT K H a xs∧
 ¬(HT.sIx xs.length 0 lo=0∧HT.sIx xs.length xs.length hi=xs.length)∧∀p,H p=none→Q (.ref p) (upd H p (.tup (qQ xs lo hi)))
theorem Ek:SlR X (IL X.K):=by
 intro pins s σ H x v vl vu lo hi sl Q I rx hs pl pu h
 obtain⟨a,xs,rfl,hx,hw,q⟩:=h
 cases rx
 obtain⟨aA,r,ht,hz⟩:=I.tuple hx
 have hlen:aA.toArray.size=xs.length:=by rw[List.size_toArray];exact r.length.symm
 refine⟨"tuple",_,PyProof.Rows.slot_tuple_getitem.lookup,ht.typeIs,?_⟩
 refine HT.getItem_tuple_cut ht hs pl pu (by rw[hlen];exact hw) ?_ (by rw[hlen];exact hz)
 rw[hlen]
 refine⟨.ref s.heap.objs.size,_,I.laid (t':=s.toks) (o:= .tup (qQ xs lo hi)) (fun b ob q=>Heap.get?_push_of_some _ q) (Nat.le_refl _) ?_,rfl,q _ (I.hok.fresh (Nat.le_refl _))⟩
 exact⟨Nat.le_trans (j3 xs lo hi) hz,_,(r.drop (HT.sIx xs.length 0 lo)).take (HT.sIx xs.length xs.length hi - HT.sIx xs.length 0 lo),IsTup.new _ _⟩
def Gb(K:W.Frag):R2:=fun x y H Q=>∃a b xs ys,x= .ref a∧y= .ref b∧SqT K H a xs∧SqT K H b ys∧xs≠[]∧xs.length+ys.length≤sizeLine∧
 (ys=[]→Q (.ref a) H)∧(ys≠[]→∀p,H p=none→Q (.ref p) (upd H p (.tup (xs++ys))))
theorem Vals.nil_iff{xs:List V}{us:List Value}(r:Vals xs us):us=[]↔xs=[]:=by
 cases r with
 |nil=>simp
 |cons _ _=>simp
theorem AV:OpR X (binaryOp .Add) (Gb X.K):=by
 intro pins s σ H x y v u Q I rx ry h
 obtain⟨a,b,xs,ys,rfl,rfl,ha,hb,hx,hz,q1,q2⟩:=h
 cases rx
 cases ry
 obtain⟨aA,r1,p1,_⟩:=I.tuple ha
 obtain⟨er,r2,p2,_⟩:=I.tuple hb
 refine HT.cat_tup p1 p2 (fun z=>hx (r1.nil_iff.mp z)) (fun z=>⟨.ref a,H,I,rfl,q1 (r2.nil_iff.mp z)⟩) (fun z=>?_) (by rw[←r1.length,←r2.length];exact hz)
 refine⟨.ref s.heap.objs.size,_,I.laid (t':=s.toks) (o:= .tup (xs++ys)) (fun b ob q=>Heap.get?_push_of_some _ q) (Nat.le_refl _) ?_,rfl,q2 (fun w=>z (r2.nil_iff.mpr w)) _ (I.hok.fresh (Nat.le_refl _))⟩
 exact⟨by rw[List.length_append];exact hz,_,r1.append r2,IsTup.new _ _⟩
end
def Aa(n:Nat)(i:Int):Option Nat:=if 0≤i then(if i<n then some i.toNat else none) else if -(n:Int)≤i then some (i+n).toNat else none
def atI{α:Type}(xs:List α)(i:Int):Option α:=(Aa xs.length i).bind fun j=>xs[j]?
theorem AJ{n:Nat}{i:Int}{j:Nat}(h:Aa n i=some j):seqIndex? i n=some j∧j<n∧ -(n:Int)≤i∧i<n:=by
 unfold Aa at h
 by_cases h0:0≤i
 ·rw[if_pos h0] at h
  by_cases h1:i<n
  ·rw[if_pos h1] at h
   have e:i.toNat=j:=Option.some.inj h
   exact⟨by rw[seqIndex_of h0 h1,e],by omega,by omega,h1⟩
  ·rw[if_neg h1] at h;cases h
 ·rw[if_neg h0] at h
  by_cases h1: -(n:Int)≤i
  ·rw[if_pos h1] at h
   have e:(i+n).toNat=j:=Option.some.inj h
   exact⟨by rw[seqIndex_neg (by omega) h1,e],by omega,h1,by omega⟩
  ·rw[if_neg h1] at h;cases h
theorem pd{α:Type}{xs:List α}{i:Int}{v:α}(h:atI xs i=some v):∃j,seqIndex? i xs.length=some j∧xs[j]? =some v∧j<xs.length∧ -(xs.length:Int)≤i∧i<xs.length:=by
 unfold atI at h
 cases e:Aa xs.length i with
 |none=>rw[e] at h;cases h
 |some j=>
  rw[e] at h
  obtain⟨h1,h2,h3,h4⟩:=AJ e
  exact⟨j,h1,h,h2,h3,h4⟩
theorem qJ{α:Type}(xs:List α)(v:α):atI (xs++[v]) (-1)=some v:=by
 have hl:(xs++[v]).length=xs.length+1:=by simp
 have e:Aa (xs++[v]).length (-1)=some xs.length:=by
  unfold Aa
  rw[hl,if_neg (by decide),if_pos (by omega)]
  congr 1
  omega
 unfold atI
 rw[e]
 show (xs++[v])[xs.length]? =some v
 simp
def gN(b:Expr):Prop:=∀o i,subscripted b false o i=operate [o,i] (getItem o i)
def EH(X:Cx)(r:R2):Prop:=
 ∀(value slice:Expr) (pins:List (Addr×Obj)) (s:Shared) (σ:St) (H:Hp) (x y:V) (v u:Value) (Q:VK),Inv X pins σ H s→RelV x v→RelV y u→r x y H Q→
  subscripted slice false v u=operate [v,u] (getItem v u)→wpAny (model X.prog X.w) X.A (subscriptTail value slice v u) (EP X pins σ Q) X.xe s
def Ha(X:Cx)(id:String)(r:V→List V→Hp→VK→Prop):Prop:=
 ∀(pins:List (Addr×Obj)) (s:Shared) (σ:St) (H:Hp) (x:V) (xs:List V) (v:Value) (us:List Value) (Q:VK),Inv X pins σ H s→RelV x v→Vals xs us→r x xs H Q→
  wpAny (model X.prog X.w) X.A (call (.builtin id) (v::us)) (EP X pins σ Q) X.xe s
section
variable{X:Cx}{a b:Expr}{ta tb:TE}{pos:Pos}
theorem F7{r:R2}(hr:EH X r)(ha:PE X a ta)(hb:PE X b tb)(hs:gN b):PE X (.Subscript a b pos) (Gx r ta tb):=by
 intro pins s σ H Q I h
 exact Subscript_ (Ct ha hb I h fun v u s2 x y H2 I2 rx ry q=>hr a b pins s2 σ H2 x y v u Q I2 rx ry q (hs _ _))
def Ea(K:W.Frag):R2:=fun x y H Q=>∃p xs i v,x= .ref p∧y= .int i∧SqL K H p xs∧atI xs i=some v∧Q v H
def Gg(K:W.Frag):R2:=fun x y H Q=>∃p xs i v,x= .ref p∧y= .int i∧SqT K H p xs∧atI xs i=some v∧Q v H
def Gf:R2:=fun x y H Q=>∃z i c,x= .str z∧y= .int i∧z.length≤sizeLine∧atI z.cps.toList i=some c∧Q (.str ⟨#[c]⟩) H
theorem u0:EH X (Ea X.K):=by
 intro value slice pins s σ H x y v u Q I rx ry h hs
 obtain⟨p,xs,i,z,rfl,rfl,hq,he,q⟩:=h
 cases rx
 obtain⟨t,rfl⟩:=ry
 obtain⟨aA,r,pl,hz⟩:=I.list hq
 obtain⟨j,h1,h2,h3,h4,h5⟩:=pd he
 obtain⟨w,ew,xq⟩:=r.get h2
 have hl:=r.length
 have hn:=jA
 have fin:EP X pins σ Q w s:=⟨z,H,I,xq,q⟩
 by_cases h0:0≤i
 ·have hj:i.toNat=j:=by
   rw[seqIndex_of h0 h5] at h1
   exact Option.some.inj h1
  exact item_listR pl.isList h0 (by omega) (by rw[hj];simpa using ew) fin hs
 ·have hj:(i+(aA.toArray.size:Int)).toNat=j:=by
   rw[seqIndex_neg (by omega) h4] at h1
   rw[List.size_toArray,←hl]
   exact Option.some.inj h1
  exact subscriptTail_builtinR (x:=w) pl.isList.typeIs slot_list_getitem.lookup
   (wpAny_getItem_list_neg (Q:=fun r s'=>r=w∧EP X pins σ Q r s') pl.isList (by omega) (by rw[List.size_toArray]<;>omega) (by omega) (by rw[hj];simpa using ew) ⟨rfl,fin⟩) hs
theorem Dg:EH X (Gg X.K):=by
 intro value slice pins s σ H x y v u Q I rx ry h hs
 obtain⟨p,xs,i,z,rfl,rfl,hq,he,q⟩:=h
 cases rx
 obtain⟨t,rfl⟩:=ry
 obtain⟨aA,r,pl,hz⟩:=I.tuple hq
 obtain⟨j,h1,h2,h3,h4,h5⟩:=pd he
 obtain⟨w,ew,xq⟩:=r.get h2
 have hl:=r.length
 have hn:=jA
 have fin:EP X pins σ Q w s:=⟨z,H,I,xq,q⟩
 exact subscriptTail_builtinR (x:=w) pl.typeIs slot_tuple_getitem.lookup
  (getItem_tuple (j:=j) (Q:=fun r s'=>r=w∧EP X pins σ Q r s') pl (by omega) (by omega) (by rw[List.size_toArray,←hl];exact h1) (by simpa using ew) ⟨rfl,fin⟩) hs
theorem Df:EH X Gf:=by
 intro value slice pins s σ H x y v u Q I rx ry h hs
 obtain⟨z,i,c,rfl,rfl,hz,he,q⟩:=h
 obtain⟨t,rfl⟩:=rx
 obtain⟨t',rfl⟩:=ry
 obtain⟨j,h1,h2,h3,h4,h5⟩:=pd he
 have hl:z.cps.toList.length=z.length:=by simp[Str.length]
 rw[hl] at h1 h4 h5
 have hn:=jA
 exact tail_any (typeIs_str s z t) slot_str_getitem.lookup (getItem_str (c:=c) (by
  have e1:decide (i< -(2 ^ 63:Int))=false:=decide_eq_false (by omega)
  have e2:decide (i≥2 ^ 63)=false:=decide_eq_false (by omega)
  rw[e1,e2,Bool.or_false]) (by rw[h1];simpa using h2) ⟨.str ⟨#[c]⟩,H,I.tok _,⟨_,rfl⟩,q⟩) hs
theorem qt(lo hi:Option Int)(n:Nat):(sliceBounds lo hi none n).1=((HT.sIx n 0 lo:Nat):Int)∧(sliceBounds lo hi none n).2.1=((HT.sIx n n hi:Nat):Int)∧(sliceBounds lo hi none n).2.2=1:=by
 refine⟨?_,?_,rfl⟩
 ·cases lo with
  |none=>simp[sliceBounds,HT.sIx]
  |some i=>
   simp only[sliceBounds,HT.sIx,Option.getD_none,show (1:Int)>0 by decide,if_true]
   by_cases h:i<0
   ·simp only[h,if_true]<;>omega
   ·simp only[h,if_false]<;>omega
 ·cases hi with
  |none=>simp[sliceBounds,HT.sIx]
  |some i=>
   simp only[sliceBounds,HT.sIx,Option.getD_none,show (1:Int)>0 by decide,if_true]
   by_cases h:i<0
   ·simp only[h,if_true]<;>omega
   ·simp only[h,if_false]<;>omega
theorem nk(aA:List Value)(lo hi:Option Int):slicePick aA.toArray lo hi none=((aA.drop (HT.sIx aA.length 0 lo)).take (HT.sIx aA.length aA.length hi - HT.sIx aA.length 0 lo)).toArray:=by
 obtain⟨h1,h2,h3⟩:=qt lo hi aA.toArray.size
 unfold slicePick
 rw[h1,h2,h3]
 simp only[sliceRange_one,pick_run,List.size_toArray]<;>rfl
def IK(K:W.Frag):V→Option Int→Option Int→Hp→VK→Prop:=fun x lo hi H Q=>∃a xs,x= .ref a∧SqL K H a xs∧∀p,H p=none→Q (.ref p) (upd H p (.lst (qQ xs lo hi)))
theorem BC:SlR X (IK X.K):=by
 intro pins s σ H x v vl vu lo hi sl Q I rx hs pl pu h
 obtain⟨a,xs,rfl,hx,q⟩:=h
 cases rx
 obtain⟨aA,r,ht,hz⟩:=I.list hx
 have hlen:=r.length
 refine⟨"list",_,slot_list_getitem.lookup,ht.isList.typeIs,?_⟩
 refine wpAny_getItem_list_slice ht.isList hs pl pu .none (by simp) ?_ (by rw[List.size_toArray]<;>omega)
 rw[nk,←hlen]
 refine⟨.ref s.heap.objs.size,_,I.laid (t':=s.toks) (o:= .lst (qQ xs lo hi)) (fun b ob q=>Heap.get?_push_of_some _ q) (Nat.le_refl _) ?_,rfl,q _ (I.hok.fresh (Nat.le_refl _))⟩
 exact⟨Nat.le_trans (j3 xs lo hi) hz,_,0,(r.drop (HT.sIx xs.length 0 lo)).take (HT.sIx xs.length xs.length hi - HT.sIx xs.length 0 lo),Heap.get?_push_size _ rfl⟩
def j4:V→Bool
 | .non=>true
 | .bl _=>true
 | .int _=>true
 | .str _=>true
 |_=>false
def z6:V→V→Bool
 | .non, .non=>true
 | .bl a, .bl b=>a==b
 | .bl a, .int b=>(if a then 1 else 0)==b
 | .int a, .bl b=>a==(if b then 1 else 0)
 | .int a, .int b=>a==b
 | .str a, .str b=>a==b
 |_,_=>false
theorem CC{A:Around}{s:Shared}{y x:V}{u v:Value}(ry:RelV y u)(rx:RelV x v)(fy:j4 y=true)(fx:j4 x=true):SeqAt.EqAt A s u v (z6 y x):=by
 cases y with
 |non=>
  cases ry
  cases x with
  |non=>cases rx;exact SeqAt.EqAt.same _
  |bl b=>cases rx;exact SeqAt.EqAt.none_bool b
  |int b=>obtain⟨t,rfl⟩:=rx;exact SeqAt.EqAt.none_int b t
  |str b=>obtain⟨t,rfl⟩:=rx;exact SeqAt.EqAt.none_str b t
  |_=>exact absurd (show false=true from fx) Bool.false_ne_true
 |bl a=>
  cases ry
  cases x with
  |non=>cases rx;exact SeqAt.EqAt.bool_none a
  |bl b=>cases rx;exact SeqAt.EqAt.bool_bool a b
  |int b=>obtain⟨t,rfl⟩:=rx;exact SeqAt.EqAt.bool_int a b t
  |str b=>obtain⟨t,rfl⟩:=rx;exact SeqAt.EqAt.bool_str a b t
  |_=>exact absurd (show false=true from fx) Bool.false_ne_true
 |int a=>
  obtain⟨t',rfl⟩:=ry
  cases x with
  |non=>cases rx;exact SeqAt.EqAt.int_none a t'
  |bl b=>cases rx;exact SeqAt.EqAt.int_bool a t' b
  |int b=>obtain⟨t,rfl⟩:=rx;exact SeqAt.EqAt.int_int a t' b t
  |str b=>obtain⟨t,rfl⟩:=rx;exact SeqAt.EqAt.int_str a t' b t
  |_=>exact absurd (show false=true from fx) Bool.false_ne_true
 |str a=>
  obtain⟨t',rfl⟩:=ry
  cases x with
  |non=>cases rx;exact SeqAt.EqAt.str_none a t'
  |bl b=>cases rx;exact SeqAt.EqAt.str_bool a t' b
  |int b=>obtain⟨t,rfl⟩:=rx;exact SeqAt.EqAt.str_int a t' b t
  |str b=>obtain⟨t,rfl⟩:=rx;exact SeqAt.EqAt.str_str a t' b t
  |_=>exact absurd (show false=true from fx) Bool.false_ne_true
 |_=>exact absurd (show false=true from fy) Bool.false_ne_true
def Ak(x:V)(u:Value):Bool:=match u with
 | .none=>z6 .non x
 | .bool b=>z6 (.bl b) x
 | .int i _=>z6 (.int i) x
 | .str z _=>z6 (.str z) x
 |_=>false
theorem xV{x y:V}{u:Value}(r:RelV y u)(f:j4 y=true):Ak x u=z6 y x:=by
 cases y with
 |non=>cases r;rfl
 |bl b=>cases r;rfl
 |int i=>obtain⟨t,rfl⟩:=r;rfl
 |str z=>obtain⟨t,rfl⟩:=r;rfl
 |_=>exact absurd (show false=true from f) Bool.false_ne_true
theorem o9{x:V}:∀{xs:List V}{us:List Value},Vals xs us→xs.all j4=true→us.any (Ak x)=xs.any fun y=>z6 y x
 |_,_, .nil,_=>rfl
 |y::xs,u::us, .cons r t,f=>by
  rw[List.all_cons,Bool.and_eq_true] at f
  rw[List.any_cons,List.any_cons,xV r f.1,o9 t f.2]
theorem lQ{A:Around}{s:Shared}{x:V}{v:Value}(rx:RelV x v)(fx:j4 x=true):∀{xs:List V}{us:List Value},Vals xs us→xs.all j4=true→∀u∈us,SeqAt.EqAt A s u v (Ak x u)
 |_,_, .nil,_=>fun u hu=>by cases hu
 |y::xs,u::us, .cons r t,f=>fun u' hu=>by
  rw[List.all_cons,Bool.and_eq_true] at f
  rcases List.mem_cons.mp hu with rfl | hu
  ·rw[xV r f.1];exact CC r rx f.1 fx
  ·exact lQ rx fx t f.2 u' hu
def GZ(x:V)(xs:List V):Bool:=xs.any fun y=>z6 y x
def II(K:W.Frag)(neg:Bool):R2:=fun x y H Q=>∃p xs,y= .ref p∧(SqL K H p xs∨SqT K H p xs)∧j4 x=true∧xs.all j4=true∧Q (.bl (if neg then !GZ x xs else GZ x xs)) H
theorem i4:OpR X (compareOp .NotIn) (II X.K true):=by
 intro pins s σ H x y v u Q I rx ry h
 obtain⟨p,xs,rfl,hq,fx,fs,q⟩:=h
 cases ry
 rcases hq with hq | hq
 ·obtain⟨aA,r,pl,hz⟩:=I.list hq
  refine SeqAt.notIn_listAt (Ak x) pl.isList (fun w hw=>lQ rx fx r fs w (by simpa using hw)) ⟨.bl _,H,I,rfl,?_⟩
  rw[show aA.toArray.any (Ak x)=aA.any (Ak x) by simp,o9 r fs]
  exact q
 ·obtain⟨aA,r,pl,hz⟩:=I.tuple hq
  refine SeqAt.notIn_tupleAt (Ak x) pl (fun w hw=>lQ rx fx r fs w (by simpa using hw)) ⟨.bl _,H,I,rfl,?_⟩
  rw[show aA.toArray.any (Ak x)=aA.any (Ak x) by simp,o9 r fs]
  exact q
theorem pj:CallR X (.builtin "len") (fun xs H Q=>∃p ys,xs=[.ref p]∧(SqL X.K H p ys∨SqT X.K H p ys)∧Q (.int ys.length) H):=by
 intro pins s σ H xs us Q I r h
 obtain⟨p,ys,rfl,hq,q⟩:=h
 obtain⟨u,rfl,rx⟩:=vals1 r
 cases rx
 have hn:=jA
 rcases hq with hq | hq
 ·obtain⟨aA,r',pl,hz⟩:=I.list hq
  have hlen:=r'.length
  exact Calls.call_len_list pl.isList (by simp only[List.size_toArray]<;>omega) ⟨.int ys.length,H,I.tok _,⟨s.toks+1,by rw[List.size_toArray,hlen]⟩,q⟩
 ·obtain⟨aA,r',pl,hz⟩:=I.tuple hq
  have hlen:=r'.length
  exact len_tuple pl (by simp only[List.size_toArray]<;>omega) ⟨.int ys.length,H,I.tok _,⟨s.toks+1,by rw[List.size_toArray,hlen]⟩,q⟩
theorem pk:CallR X (.builtin "len") (fun xs H Q=>∃z,xs=[.str z]∧z.length≤sizeLine∧Q (.int z.length) H):=by
 intro pins s σ H xs us Q I r h
 obtain⟨z,rfl,hz,q⟩:=h
 obtain⟨u,rfl,t,rfl⟩:=vals1 r
 have hn:=jA
 exact len_str (by omega) ⟨.int z.length,H,I.tok _,⟨_,rfl⟩,q⟩
theorem CallR.or{f:Value}{r r':List V→Hp→VK→Prop}(h:CallR X f r)(h':CallR X f r'):CallR X f (fun xs H Q=>r xs H Q∨r' xs H Q):=by
 intro pins s σ H xs us Q I rs q
 rcases q with q | q
 ·exact h pins s σ H xs us Q I rs q
 ·exact h' pins s σ H xs us Q I rs q
def G7(K:W.Frag)(T:String)(x:V)(H:Hp):Prop:=match x with
 | .str _=>T="str"
 | .int _=>T="int"
 | .ref p=>(T="list"∧∃xs,SqL K H p xs)∨(T="tuple"∧∃o,K.lookup p=some o∧o.cls= .type "tuple"∧o.dict=none)∨
    (T="dict"∧((∃aw,H p=some (.dK aw))∨∃aw,H p=some (.dT aw)))∨(T="set"∧∃S n,H p=some (.set S n))
 |_=>False
theorem Er{pins:List (Addr×Obj)}{σ:St}{H:Hp}{s:Shared}{T:String}{x:V}{v:Value}(I:Inv X pins σ H s)(r:RelV x v)(ty:G7 X.K T x H):
 s.TypeIs v T∧∀a,v= .ref a→∃ob,s.heap.get? a=some ob∧ob.dict=none:=by
 cases x with
 |str z=>
  obtain⟨t,rfl⟩:=r
  cases (show T="str" from ty)
  exact⟨typeIs_str s z t,fun _ e=>nomatch e⟩
 |int i=>
  obtain⟨t,rfl⟩:=r
  cases (show T="int" from ty)
  exact⟨typeIs_int s i t,fun _ e=>nomatch e⟩
 |ref p=>
  cases r
  rcases ty with⟨rfl,xs,hq⟩ | ⟨rfl,o,hk,hc,hd⟩ | ⟨rfl,hk⟩ | ⟨rfl,S,n,hk⟩
  ·obtain⟨aA,_,pl,_⟩:=I.list hq
   refine⟨pl.isList.typeIs,fun a e=>?_⟩
   cases e
   obtain⟨o,n,e,c,hd,_⟩:=pl
   exact⟨o,e,hd⟩
  ·refine⟨⟨o,I.kIn p o hk,hc⟩,fun a e=>?_⟩
   cases e
   exact⟨o,I.kIn _ o hk,hd⟩
  ·have z:∃o,s.heap.get? p=some o∧o.ExactDict:=by
    rcases hk with⟨aw,hk⟩ | ⟨aw,hk⟩
    ·obtain⟨_,_,_,_,o,_,_,e,ex,_⟩:=I.hok p _ hk
     exact⟨o,e,ex⟩
    ·obtain⟨_,_,_,_,o,_,_,e,ex,_⟩:=I.hok p _ hk
     exact⟨o,e,ex⟩
   obtain⟨o,e,ex⟩:=z
   refine⟨⟨o,e,ex.1⟩,fun a e2=>?_⟩
   cases e2
   exact⟨o,e,ex.2.1⟩
  ·obtain⟨o,_,_,_,e,ex,_⟩:=I.hok p _ hk
   refine⟨⟨o,e,ex.1⟩,fun a e2=>?_⟩
   cases e2
   exact⟨o,e,ex.2.1⟩
 |_=>exact False.elim ty
def IU(K:W.Frag)(T:String)(r:V→List V→Hp→VK→Prop)(to:TE)(t:TA):TE:=fun σ H Q=>to σ H fun x H1=>G7 K T x H1∧t σ H1 fun xs H2=>r x xs H2 Q
variable{o e:Expr}{es:List Expr}{to:TE}{t:TA}{name:Str}{apos bf:Pos}{T id:String}{r:V→List V→Hp→VK→Prop}
theorem y9(pa:PlainAttrs T)(slot:Slot T name id)(Ia:typeOf (.builtin id)=pure (.type "method_descriptor"))(hm:Ha X id r)(ho:PE X o to)(ha:PA X (e::es) t)
 (iR:attributeBase o name X.env (eval o X.env)=eval o X.env:=by rfl)
 (pF:((backTo bf (starEach (e::es) X.env)).all (fun x=>!x.1)&&(backToKw bf (keywordEach [] X.env)).all (fun x=>x.1.isSome)
  &&decide ((e::es).length+([]:List Keyword).length+(if ([]:List Keyword).isEmpty then 0 else 1)<30))=true:=by rfl)
 (iS:(apos.endLine==bf.line)=true:=by rfl) (hs:starEach (e::es) X.env=(false,eval e X.env)::starEach es X.env:=by rfl) (tG:(backTo bf (starEach es X.env)).any (·.1)=false:=by rfl):
 PE X (.Call (.Attribute o name apos) (e::es) [] bf) (IU X.K T r to t):=by
 intro pins s σ H Q I h
 refine wpAny_Call_method_late iR pF iS rfl (bY (ho pins s σ H _ I h) fun v s1 ⟨x,H1,I1,r1,ty,q1⟩=>?_)
 obtain⟨h1,h2⟩:=Er I1 r1 ty
 refine⟨T,id,pa,slot,Ia,h1,h2,?_⟩
 have hA:=ha bf pins s1 σ H1 _ I1 q1
 rw[hs] at hA⊢
 refine Calls.callWith_builtin (by show (false||(backTo bf (starEach es X.env)).any (·.1))=false;rw[tG]<;>rfl) (Calls.evalArgs_plain ?_)
 exact bY hA fun us s2 ⟨vs,H2,I2,r2,q2⟩=>hm pins s2 σ H2 x vs v us Q I2 r1 r2 q2
end
def Ji(X:Cx)(id:String)(r:V→List V→Hp→VK→Prop):Prop:=
 ∀(pins:List (Addr×Obj)) (s:Shared) (σ:St) (H:Hp) (x:V) (xs:List V) (v:Value) (us:List Value) (Q:VK),Inv X pins σ H s→RelV x v→Vals xs us→r x xs H Q→
  wpAny (model X.prog X.w) X.A (call (.builtin id) (v::us)) (EP X pins σ Q) X.xe s
theorem Vals.one:∀{x:V}{us:List Value},Vals [x] us→∃u,us=[u]∧RelV x u
 |_,_, .cons r .nil=>⟨_,rfl,r⟩
theorem Vals.rep{xs:List V}{us:List Value}(h:Vals xs us):∀k:Nat,Vals (List.replicate k xs).flatten (List.replicate k us).flatten
 |0=> .nil
 |k+1=>by
  rw[List.replicate_succ,List.replicate_succ,List.flatten_cons,List.flatten_cons]
  exact Vals.append h (Vals.rep h k)
theorem foldl_rep(aA:List Value):∀(k:Nat) (acc:List Value),
 List.foldl (fun x1 x2=>x1++x2) acc.toArray (List.replicate k aA.toArray)=(acc++(List.replicate k aA).flatten).toArray
 |0,acc=>by simp
 |k+1,acc=>by
  have e:acc.toArray++aA.toArray=(acc++aA).toArray:=by simp
  have e2:(acc++aA)++(List.replicate k aA).flatten=acc++(List.replicate (k+1) aA).flatten:=by
   rw[List.replicate_succ,List.flatten_cons,List.append_assoc]
  rw[←e2,←foldl_rep aA k (acc++aA),←e,List.replicate_succ,List.foldl_cons]
section
variable{X:Cx}{pins:List (Addr×Obj)}{σ:St}{H:Hp}{s:Shared}{l b:Addr}{xs ys zs:List V}
theorem Inv.lset{aA its':List Value}{n:Nat}{f:Array Value→Array Value}{t':Nat}(I:Inv X pins σ H s)(hH:H l=some (.lst xs))
 (e:s.heap.get? l=some {cls:= .type "list",data:= .seq aA.toArray n})(hf:f aA.toArray=its'.toArray)(hv:Vals ys its')(hz:ys.length≤sizeLine):
 Inv X pins σ (upd H l (.lst ys)) {s with heap:=s.heap.update l (Obj.mapSeq f),toks:=t'}:=by
 have q:=PySem.IsL.update e f
 rw[hf] at q
 refine I.write (x:=l) (e:=l) (by rw[hH];exact trivial) (.inl rfl) (fun b' u hb hu=>(Heap.get?_update_other s.heap (Obj.mapSeq f) (Ne.symm hb)).trans hu) ⟨_,q⟩ ?_
 exact⟨hz,its',_,hv,q⟩
theorem Inv.lnew{aA:List Value}{t':Nat}(I:Inv X pins σ H s)(hv:Vals ys aA)(hz:ys.length≤sizeLine):
 Inv X pins σ (upd H s.heap.objs.size (.lst ys)) {s with heap:=s.heap.push {cls:= .type "list",data:= .seq aA.toArray},toks:=t'}:=
 I.laid (fun _ _ q=>Heap.get?_push_of_some _ q) (Nat.le_refl _) ⟨hz,aA,0,hv,Heap.get?_push_size _ rfl⟩
theorem Inv.fresh(I:Inv X pins σ H s):H s.heap.objs.size=none:=I.hok.fresh (Nat.le_refl _)
theorem Inv.lstM(I:Inv X pins σ H s)(hH:H l=some (.lst xs)):xs.length≤sizeLine∧∃(aA:List Value) (n:Nat),Vals xs aA∧xs.length=aA.length∧s.heap.get? l=some {cls:= .type "list",data:= .seq aA.toArray n}:=by
 obtain⟨z,aA,n,r,e⟩:=I.hok l _ hH
 exact⟨z,aA,n,r,r.length,e⟩
theorem rG{n:Nat}(h:n≤sizeLine):Builtin.List.listTooLong n=false:=by
 unfold Builtin.List.listTooLong
 exact decide_eq_false (by omega)
end
section
variable{X:Cx}
def vy:V→List V→Hp→VK→Prop:=fun x vs H Q=>∃l xs y,x= .ref l∧vs=[y]∧H l=some (.lst xs)∧xs.length<sizeLine∧Q .non (upd H l (.lst (xs++[y])))
theorem oz:Ji X "list.append" vy:=by
 intro pins s σ H x vs v us Q I rx rv h
 obtain⟨l,xs,y,rfl,rfl,hH,hz,q⟩:=h
 cases rx
 obtain⟨u,rfl,ru⟩:=rv.one
 obtain⟨z,aA,n,r,hl,e⟩:=I.lstM hH
 refine call_meets F.slot_list_append ⟨_,e,rfl⟩ F.entry_list_append (F.args_list_append_2 _ _) (PySem.list_append l aA.toArray n u (by rw[List.size_toArray];omega)) ⟨e,?_⟩
 refine⟨.non,_,I.lset (its':=aA++[u]) hH e (by simp) (r.append (.cons ru .nil)) ?_,rfl,q⟩
 rw[List.length_append,List.length_singleton]
 omega
def vz:V→List V→Hp→VK→Prop:=fun x vs H Q=>∃l b xs zs,x= .ref l∧vs=[.ref b]∧H l=some (.lst xs)∧H b=some (.lst zs)∧xs.length+zs.length≤sizeLine∧Q .non (upd H l (.lst (xs++zs)))
theorem wA:Ji X "list.extend" vz:=by
 intro pins s σ H x vs v us Q I rx rv h
 obtain⟨l,b,xs,zs,rfl,rfl,hH,hB,hz,q⟩:=h
 cases rx
 obtain⟨u,rfl,ru⟩:=rv.one
 cases ru
 obtain⟨z,aA,n,r,hl,e⟩:=I.lstM hH
 obtain⟨z2,er,n2,r2,z9,e2⟩:=I.lstM hB
 have hsz:aA.toArray.size+er.toArray.size≤sizeLine:=by rw[List.size_toArray,List.size_toArray];omega
 have yk:¬(!aA.toArray.isEmpty&&Builtin.List.listTooLong (aA.toArray.size+er.toArray.size))=true:=by
  rw[rG hsz,Bool.and_false]
  exact Bool.false_ne_true
 refine call_meets F.slot_list_extend ⟨_,e,rfl⟩ F.entry_list_extend (F.args_list_extend_2 _ _)
  (AutoSeq1.list_extend_list_list_0 l aA.toArray n b er.toArray n2 yk (by rw[List.size_toArray];omega) (by omega)) ⟨e,e2,?_⟩
 refine⟨.non,_,I.lset (its':=aA++er) hH e (by simp) (r.append r2) ?_,rfl,q⟩
 rw[List.length_append]
 omega
def IH:R2:=fun x y H Q=>∃l b xs zs,x= .ref l∧y= .ref b∧H l=some (.lst xs)∧H b=some (.lst zs)∧xs.length+zs.length≤sizeLine∧∀p,H p=none→Q (.ref p) (upd H p (.lst (xs++zs)))
theorem Dt:OpR X (binaryOp .Add) IH:=by
 intro pins s σ H x y v u Q I rx ry h
 obtain⟨l,b,xs,zs,rfl,rfl,hH,hB,hz,q⟩:=h
 cases rx
 cases ry
 obtain⟨z,aA,n,r,hl,e⟩:=I.lstM hH
 obtain⟨z2,er,n2,r2,z9,e2⟩:=I.lstM hB
 refine PySem.P.add_list e e2 ?_ (by rw[List.size_toArray,List.size_toArray];omega)
 have ea:aA.toArray++er.toArray=(aA++er).toArray:=by simp
 rw[ea]
 exact⟨.ref _,_,I.lnew (t':=s.toks) (r.append r2) (by rw[List.length_append];omega),rfl,q _ I.fresh⟩
def IJ:R2:=fun x y H Q=>∃l k xs,x= .ref l∧y= .int k∧H l=some (.lst xs)∧ -(2 ^ 63)≤k∧k<2 ^ 63∧xs.length*k.toNat≤sizeLine∧
 ∀p,H p=none→Q (.ref p) (upd H p (.lst (List.replicate k.toNat xs).flatten))
theorem len_rep{α:Type}(xs:List α)(k:Nat):(List.replicate k xs).flatten.length=k*xs.length:=by
 induction k with
 |zero=>simp
 |succ k ih=>rw[List.replicate_succ,List.flatten_cons,List.length_append,ih,Nat.succ_mul,Nat.add_comm]
theorem Dz:OpR X (binaryOp .Mult) IJ:=by
 intro pins s σ H x y v u Q I rx ry h
 obtain⟨l,k,xs,rfl,rfl,hH,h1,h2,hz,q⟩:=h
 cases rx
 obtain⟨t,rfl⟩:=ry
 obtain⟨z,aA,n,r,hl,e⟩:=I.lstM hH
 have hlen:aA.toArray.size*k.toNat≤sizeLine:=by rw[List.size_toArray,←hl];exact hz
 have Hv:¬aA.toArray.size*k.toNat>(2 ^ 63 - 1) / 8:=by
  have:(sizeLine:Nat)≤(2 ^ 63 - 1) / 8:=by decide
  omega
 have Hz:¬(!Builtin.List.listFitsIndex k)=true:=by
  rw[fitsIndex_both h1 h2]
  exact Bool.false_ne_true
 have yk:¬Builtin.List.listTooLong (aA.toArray.size*k.toNat)=true:=by
  rw[rG hlen]
  exact Bool.false_ne_true
 have CW:List.foldl (fun x1 x2=>x1++x2) #[] (List.replicate (if aA.toArray.isEmpty=true then 0 else k.toNat) aA.toArray)=(List.replicate k.toNat aA).flatten.toArray:=by
  have f0:∀m:Nat,List.foldl (fun x1 x2=>x1++x2) #[] (List.replicate m aA.toArray)=(List.replicate m aA).flatten.toArray:=fun m=>by
   have:=foldl_rep aA m []
   rw[List.nil_append] at this
   exact this
  rw[f0]
  cases aA with
  |nil=>simp
  |cons a r'=>rw[if_neg (by simp)]
 refine wpAny_binaryOp_repeat_ref (T:="list") (U:="int") (by decide) ⟨_,e,rfl⟩ (fun s'=>typeIs_int s' k t) noFill_list_mul F.fills_int_mul F.slot_int_rmul repeat_list F.slot_int_index.lookup
  (call_meets F.slot_int_rmul (typeIs_int s k t) F.entry_int_rmul (F.args_int_rmul_2 _ _) (int___rmul___int_list k t l aA.toArray n)
   ⟨e,rfl,⟨_,e,rfl⟩,call_meets F.slot_list_mul ⟨_,e,rfl⟩ F.entry_list_mul (F.args_list_mul_2 _ _) (AutoListH.list___mul___list_int_3 l aA.toArray n k t Hz Hv yk) ⟨e,?_⟩⟩)
 rw[CW]
 exact⟨.ref _,_,I.lnew (t':=s.toks) (r.rep k.toNat) (by rw[len_rep,Nat.mul_comm];exact hz),rfl,q _ I.fresh⟩
end
section
variable{prog:Program}{w:World}{A:Around}{E:Value→Shared→Prop}{s:Shared}
end
section
variable{X:Cx}
end
end L2
namespace Att
open PySem PySem.W PySem.Calls PyProof.Rows
theorem ints_of_wellAll{P:Params}{h:Heap}:∀(ns:List Int) (vs:List Value),WellAll P h vs (ns.map WData.int)→IntsAre vs ns:=by
 intro ns
 induction ns with
 |nil=>
  intro vs w
  rw[List.map_nil] at w
  cases w
  exact .nil
 |cons n ns ih=>
  intro vs w
  rw[List.map_cons] at w
  cases w with
  |cons a b=>
   cases a
   exact .cons _ _ (ih _ b)
theorem script_of{l:OpenLaw}{n:Nat}(hn:l.most=some n){P:Params}{h:Heap}{args:List WData}{vals:List Value}
 (Av:l.row.toRowW.claim.pre args=true)(Ie:WellAll P h vals args):
 ∃a vs ns,vals=[Value.ref a]∧args=[WData.list (ns.map WData.int)]∧h.get? a=some {cls:= .type "list",data:= .seq vs.toArray}∧IntsAre vs ns∧ns.length≤n:=by
 have Lq:WShape.hasAll [] args [.list .int]=true:=(pre_splitW Av).1
 have hc:l.pre.holds [] {args:=args}=true:=(pre_splitW Av).2
 obtain⟨d,r,rfl,h1,h2⟩:=hasAllW_cons Lq
 obtain rfl:=hasAllW_nil h2
 obtain⟨xs,rfl,h3⟩:=hasW_list h1
 obtain⟨ns,rfl⟩:=items_int h3
 have hlen:ns.length≤n:=by
  unfold OpenLaw.pre at hc
  have h4:(WTm.not (.lt (.lit (.int (n:Int))) (.len (.arg 0)))).holds [] {args:=[.list (ns.map .int)]}=true:=by
   have h4:=(holds_andW hc).1
   rw[hn] at h4
   exact h4
  have h5:=condW_of h4 (w_not (w_lt w_lit (w_len_list (w_arg rfl))))
  rw[List.length_map] at h5
  refine Nat.le_of_not_lt fun q=>?_
  have q':(n:Int)<((ns.length:Nat):Int):=by omega
  first
   |(rw [decide_eq_true q'] at h5;exact absurd h5 (by decide))
   |(simp at h5;omega)
 cases Ie with
 |cons w1 w2=>
  cases w2
  cases w1 with
  |list ho Hu=>exact⟨_,_,ns,rfl,rfl,ho,ints_of_wellAll ns _ Hu,hlen⟩
theorem post_true(l:OpenLaw)(args:List WData):l.row.toRowW.claim.post args (.bool true) args=true:=
 postW_of (r:=l.row.toRowW) (X:=(true==true))
  (show WShape.has [] (.bool true) .bool=true by first | rfl | decide | simp[WShape.has,WShape.arms,WShape.armsAll])
  (show (WTm.eq .res (.lit (.bool true))).value [] {args:=args,res:=some (.bool true),after:=args}=some (.bool (true==true)) from w_eq_bool (w_res rfl) w_lit) rfl
theorem attach_call{l:OpenLaw}{n:Nat}{q:Program}{loose:List Str}{XP:(Str→Option Value)→Heap→Prop}{YP:World→Heap→Prop}{d:DefRec}
 (hn:l.most=some n)(Fe:d.params.defaults=[])
 (call:∀(w:World) (s₀ s₁:Shared) (mg mb:Str→Option Value) (fa:Addr) (o:Obj) (pm cd doc:Value) (a:Addr) (vs:List Value) (ns:List Int),
  Ground q loose [] XP w s₀ mg mb s₁.heap→YP w s₁.heap→
  s₁.heap.get? fa=some o→o.data= .func (docDef d.name d.params d.body d.scope pm cd doc)→s₁.heap.CodeRec cd d.name→mg d.name=some (.ref fa)→
  s₁.heap.get? a=some {cls:= .type "list",data:= .seq vs.toArray}→IntsAre vs ns→ns.length≤n→s₁.gens= #[]→
  codeAny (model l.prog w) callerA (.call (.ref fa) ⟨[.ref a],[]⟩) (fun r s'=>r= .ok (.ret (.bool true))∧OldK s₁.heap s'.heap∧s'.os=s₁.os∧AllBare s'.gens) s₁):
 WalkO q loose XP YP l.row.toRowW d [] (fun f vs=>PySem.call f vs):=by
 intro w s₀ s₁ mg mb G Y fa o pm cd doc dV kV ho hd uV hD CV hg args vals as Av K_ Mb Ie L9
 obtain rfl:dV= .none:=Dflts.none hD Fe
 obtain rfl:kV= .none:=Dflts.noKw hD
 obtain⟨a,vs,ns,rfl,rfl,yl,hints,hlen⟩:=script_of hn Av Ie
 refine enter_call (codeAny_mono (call w s₀ s₁ mg mb fa o pm cd doc a vs ns G Y ho (fd_plain hd) uV CV yl hints hlen hg) fun r s' hq=>?_)
 obtain⟨rfl,h2,h3,h4⟩:=hq
 exact⟨.inl ⟨.bool true, .bool true,[],rfl,fun _=>rfl, .bool true,post_true l _,fun _=>⟨List.Pairwise.nil,fun _ hm=>(nomatch hm)⟩⟩,h2,h3,h4⟩
section
variable{prog:Program}{w:World}{A:Around}{E:Value→Shared→Prop}{s:Shared}{K:Frag}
def ledger(h:Heap)(L d:Addr):List (Addr×Obj):=(List.range h.objs.size).filterMap fun a=>if a=L∨a=d then none else(h.get? a).map fun o=>(a,o)
end
end Att
namespace L2
open PySem PySem.Spec PyProof.Rows
theorem o4:∀{vs:List Value}{ns:List Int},IntsAre vs ns→Vals (ns.map V.int) vs
 |_,_, .nil=> .nil
 |_,_, .cons n t h=> .cons ⟨t,rfl⟩ (o4 h)
def Cr(H:Hp):Prop:=∀b,H b=none∨∃o xs,H b=some (.frz o (.lst xs))
theorem rn{P:Program}{w:World}{K:W.Frag}{mg mb:Str→Option Value}{CX:sS}{k:Nat}{fa a:Addr}{fd:FuncData}{x:Str}{sp:Sp}{s₁:Shared}{vs:List Value}{ns:List Int}
 (KX:K.In s₁.heap)(JP:s₁.heap.Ns mainGlobals mg)(hb:s₁.heap.Ns builtinsNs mb)(KI:∀x:Str,x≠"__name__"→mb x=bootBuiltins x)(CT:s₁.heap.NoLimit)(hg:s₁.gens= #[])
 (ha:s₁.heap.get? a=some {cls:= .type "list",data:= .seq vs.toArray})(hi:IntsAre vs ns)(hl:ns.length≤sizeLine)(hr:Room k callerA)
 (F:∀base:Heap,K.In base→base.Ns mainGlobals mg→FnOk P w K mg base CX k fa fd [x] sp)(Fb:∀(s:Shared) (u:Value),BindsTo s fd ⟨[u],[]⟩ [(x,u)])
 (B8:∀H:Hp,Cr H→SqL K H a (ns.map V.int)→sp [.ref a] H (fun v _=>v= .bl true) fun _ _ _=>False)
 (Hm:∀H e s',CX [] H s₁ (fun _ _ _=>False) e s'→False):
 codeAny (model P w) callerA (.call (.ref fa) ⟨[.ref a],[]⟩) (fun r s'=>r= .ok (.ret (.bool true))∧OldK s₁.heap s'.heap∧s'.os=s₁.os∧AllBare s'.gens) s₁:=by
 have rv:=o4 hi
 have Iy:=hi.length
 have core:∀H:Hp,Cr H→SqL K H a (ns.map V.int)→HOk P w H s₁.heap→(∀b,H b≠none→b=a)→(H a≠none→K.lookup a=none)→
  codeAny (model P w) callerA (.call (.ref fa) ⟨[.ref a],[]⟩) (fun r s'=>r= .ok (.ret (.bool true))∧OldK s₁.heap s'.heap∧s'.os=s₁.os∧AllBare s'.gens) s₁:=by
  intro H hO hS hok hA hK
  have uM:∀{b:Addr}{o:Obj},s₁.heap.get? b=some o→H b=none→(pG s₁.heap H).get? b=some o:=fun e n=>yh e n
  have FO:∀{b:Addr}{o:Obj}{es:Array DictEntry}{ep:Nat},s₁.heap.get? b=some o→o.data= .dict es ep→H b=none:=fun {b o es ep} e d=>by
   cases q:H b with
   |none=>rfl
   |some u=>
    have e':b=a:=hA b (by rw[q];simp)
    subst e'
    rw[ha] at e;cases e
    have d':Data.seq vs.toArray _=Data.dict es ep:=d
    cases d'
  have G1:∀{b:Addr}{m:Str→Option Value},s₁.heap.Ns b m→(pG s₁.heap H).Ns b m:=fun {b m} ⟨o,es,ep,e,d,r⟩=>⟨o,es,ep,uM e (FO e d),d,r⟩
  have JA:K.In (pG s₁.heap H):=fun b o e=>uM (KX b o e) (by
   cases q:H b with
   |none=>rfl
   |some u=>
    have e':b=a:=hA b (by rw[q];simp)
    subst e'
    rw[hK (by rw[q];simp)] at e;cases e)
  have hM:Mod K mg (pG s₁.heap H):=⟨JA,G1 JP,⟨mb,G1 hb,KI⟩,let ⟨mc,h1,h2⟩:=CT;⟨mc,G1 h1,h2⟩⟩
  have e0:Env0 P w K mg (pG s₁.heap H) callerA [] s₁ H:=⟨rfl,hM,fun b o e=>AU e,Nat.le_of_eq (v8 _ _),trivial,fun b hb=>absurd (show b∈([]:List Addr) from hb) (by simp),hok, .of_eq hg⟩
  refine codeAny_mono ((F _ JA (G1 JP)).run callerA [] s₁ H ⟨[.ref a],[]⟩ [.ref a] [.ref a] _ _ hr e0 (Fb s₁ (.ref a)) (.cons rfl .nil) (B8 H hO hS)) fun r s' h=>?_
  cases r with
  |error e=>exact(Hm H e s' h).elim
  |ok fl=>
   cases fl with
   |next=>exact False.elim h
   |brk=>exact False.elim h
   |cont=>exact False.elim h
   |ret u=>
    obtain⟨v,H',os,bare,un,HU,r',q⟩:=h
    have q':v= .bl true:=q
    subst q'
    obtain rfl:u=Value.bool true:=r'
    refine⟨rfl,OldK.of_keep fun b o e=>?_,os,bare⟩
    cases q:H b with
    |none=>exact un.keep b o e q (by intro z;exact absurd (show b∈([]:List Addr) from z) (by simp)) (by simp)
    |some u=>
     rcases hO b with z | ⟨ob,xs,z⟩
     ·rw[q] at z;cases z
     ·have z2:=un.frzs b ob _ z
      obtain⟨e1,_⟩:=hok b _ z
      obtain⟨e2,_⟩:=HU b _ z2
      rw[e] at e1;cases e1
      exact e2
 cases hk:K.lookup a with
 |some o=>
  have e:=KX a o hk
  rw[ha] at e
  cases e
  refine core (fun _=>none) (fun _=> .inl rfl) (.inr ⟨_,vs.toArray,_,hk,rfl,rfl,rfl,by rw[List.size_toArray,Iy];exact hl,by simpa using rv⟩) (fun b u z=>by have z':(none:Option HO)=some u:=z;cases z') (fun b z=>absurd rfl z) fun z=>absurd rfl z
 |none=>
  refine core (fun b=>if b=a then some (.frz {cls:= .type "list",data:= .seq vs.toArray} (.lst (ns.map V.int))) else none) (fun b=>?_) (.inl (.inr ⟨{cls:= .type "list",data:= .seq vs.toArray},if_pos rfl⟩)) (fun b u z=>?_) (fun b z=>?_) fun _=>hk
  ·by_cases hb:b=a
   ·exact .inr ⟨_,_,if_pos hb⟩
   ·exact .inl (if_neg hb)
  ·by_cases hb:b=a
   ·have z':=(if_pos hb).symm.trans z
    cases z'
    subst hb
    exact⟨ha,by rw[List.length_map];exact hl,vs,_,rv,ha⟩
   ·have z':=(if_neg hb).symm.trans z
    cases z'
  ·by_cases hb:b=a
   ·exact hb
   ·exact absurd (if_neg hb) z
abbrev LX{K:W.Frag}{h:Heap}(_:K.In h):W.Frag:=K
theorem G8{l:PySem.W.OpenLaw}{n k:Nat}{q:Program}{loose:List Str}{XP:(Str→Option Value)→Heap→Prop}{YP:World→Heap→Prop}{d:DefRec}{K:Params→W.Frag}{CX:World→sS}{sp:World→Sp}{x:Str}
 (hn:l.most=some n)(Fp:n≤sizeLine)(Fe:d.params.defaults=[])(hr:Room k callerA)
 (hY:∀(w:World) (h:Heap),YP w h→(K w.params).In h)
 (F:∀(w:World) (mg:Str→Option Value) (fa:Addr) (h:Heap),(K w.params).In h→h.Ns mainGlobals mg→mg d.name=some (.ref fa)→
  ∃fd:FuncData,(∀(s:Shared) (u:Value),BindsTo s fd ⟨[u],[]⟩ [(x,u)])∧
   ∀base:Heap,(K w.params).In base→base.Ns mainGlobals mg→FnOk l.prog w (K w.params) mg base (CX w) k fa fd [x] (sp w))
 (B8:∀(w:World) (H:Hp) (a:Addr) (ns:List Int),ns.length≤n→Cr H→SqL (K w.params) H a (ns.map V.int)→sp w [.ref a] H (fun v _=>v= .bl true) fun _ _ _=>False)
 (Hm:∀(w:World) (H:Hp) (s:Shared) (e:Value) (s':Shared),CX w [] H s (fun _ _ _=>False) e s'→False):
 PySem.W.WalkO q loose XP YP l.row.toRowW d [] (fun f vs=>PySem.call f vs):=by
 refine Att.attach_call hn Fe fun w s₀ s₁ mg mb fa o pm cd doc a vs ns G Y ho hd uV CV yl hints hlen hg=>?_
 have KX:=hY w _ Y
 obtain⟨fd,hb,hF⟩:=F w mg fa _ KX G.T.g CV
 exact rn KX G.T.g G.T.b G.T.builtins G.T.nolimit hg yl hints (Nat.le_trans hlen Fp) hr hF hb (fun H hO hS=>B8 w H a ns hlen hO hS) fun H e s'=>Hm w H s₁ e s'
abbrev Kg:sS:=fun _ _ _ _ _ _=>False
structure Fun (K:W.Frag) (x qual:Str) (st:Stmt) (f:Addr) (fd:FuncData):Prop where
 ex:∃(oc:Value) (od:Option Addr) (kV doc pm:Value) (an:Option Addr) (cu ct:Value) (Cg:Array (Option Value)),
  fd=PySem.W.fnOf x qual (dz st) (bI st) (ag st) .none kV doc pm an cu ct∧K.lookup f=some ⟨oc,od, .func fd,Cg⟩∧PySem.W.codeIn K cu qual=true
 kp:PySem.W.keepIn K (.ref f)=true
section
variable{P:Program}{w:World}{K:W.Frag}{mg:Str→Option Value}{base:Heap}
theorem Fun.binds{x qual:Str}{st:Stmt}{f:Addr}{fd:FuncData}{ps:List Str}(F:Fun K x qual st f fd)
 (h:∀(kV doc pm:Value) (an:Option Addr) (cu ct:Value) (us:List Value),us.length=ps.length→bindArgs (PySem.W.fnOf x qual (dz st) (bI st) (ag st) .none kV doc pm an cu ct) ⟨us,[]⟩=pure (ps.zip us)):Binds K fd ps []:=by
 obtain⟨oc,od,kV,doc,pm,an,cu,ct,Cg,rfl,lk,uV⟩:=F.ex
 exact .all (h kV doc pm an cu ct)
theorem xZ{x qual:Str}{st:Stmt}{f:Addr}{oc:Value}{od an:Option Addr}{Cg:Array (Option Value)}{kV doc pm cu ct:Value}(l:K.lookup f=some ⟨oc,od, .func (PySem.W.fnOf x qual (dz st) (bI st) (ag st) .none kV doc pm an cu ct),Cg⟩)
 (c:PySem.W.codeIn K cu qual=true)(k:PySem.W.keepIn K (.ref f)=true):Fun K x qual st f (PySem.W.fnOf x qual (dz st) (bI st) (ag st) .none kV doc pm an cu ct):=⟨⟨oc,od,kV,doc,pm,an,cu,ct,Cg,rfl,l,c⟩,k⟩
end
section
variable{X:Cx}
theorem pv(i:Nat){x:Str}{pos:Pos}(hN:X.N[i]? =some x:=by rfl)(hv:He X.env.scope x:=by first | exact Or.inl rfl | exact Or.inr (Or.inl rfl) | exact Or.inr (Or.inr rfl))(hd:(x==("__debug__":Str))=false:=by decide)
 (uV:(x==("__classdict__":Str))=false:=by decide):PE X (.Name x pos) (mN i):=D0 hN hv hd uV
end
def Same(H H':Hp):Prop:=∀b o,H b=some o→H' b=some o
theorem Same.refl(H:Hp):Same H H:=fun _ _ h=>h
theorem Same.trans{H H1 H2:Hp}(a:Same H H1)(b:Same H1 H2):Same H H2:=fun c o h=>b c o (a c o h)
theorem Same.free{H H':Hp}(e:Same H H'){l:Addr}(h:H' l=Option.none):H l=Option.none:=by
 cases q:H l with
 |none=>rfl
 |some o=>
  rw[e l o q] at h
  cases h
theorem Same.seq{K:W.Frag}{H H':Hp}{a:Addr}{xs:List V}(e:Same H H')(h:SqL K H a xs):SqL K H' a xs:=by
 rcases h with(h | ⟨o,h⟩) | h
 ·exact .inl (.inl (e _ _ h))
 ·exact .inl (.inr ⟨o,e _ _ h⟩)
 ·exact .inr h
section
variable{κ:Type}[DecidableEq κ]
def jl(aw:List (κ×V))(k:κ):Option V:=(aw.find? fun kv=>decide (kv.1=k)).map (·.2)
def putK(aw:List (κ×V))(k:κ)(v:V):List (κ×V):=
 if (aw.any fun kv=>decide (kv.1=k))=true then aw.map (fun kv=>if kv.1=k then(kv.1,v) else kv) else aw++[(k,v)]
theorem jo{p:κ×V}{r:List (κ×V)}{k:κ}(e:p.1=k):jl (p::r) k=some p.2:=by simp[jl,List.find?_cons,e]
theorem jm{p:κ×V}{r:List (κ×V)}{k:κ}(e:¬p.1=k):jl (p::r) k=jl r k:=by simp[jl,List.find?_cons,e]
theorem mP(k:κ):∀aw:List (κ×V),(aw.any fun kv=>decide (kv.1=k))=(jl aw k).isSome
 |[]=>rfl
 |p::r=>by
  rw[List.any_cons]
  by_cases e:p.1=k
  ·simp only[jo e,decide_eq_true e,Bool.true_or,Option.isSome_some]
  ·rw[jm e,decide_eq_false e,Bool.false_or];exact mP k r
theorem dH(aw:List (κ×V))(k:κ)(v:V):(putK aw k v).length≤aw.length+1:=by
 unfold putK
 split
 ·rw[List.length_map];omega
 ·rw[List.length_append,List.length_cons,List.length_nil];omega
theorem RelO.isSome_eq{o:Option V}{u:Option Value}(r:RelO o u):o.isSome=u.isSome:=by
 cases o with
 |none=>cases u with
  |none=>rfl
  |some _=>exact(show False from r).elim
 |some _=>cases u with
  |none=>exact(show False from r).elim
  |some _=>rfl
theorem RelO.getD{o:Option V}{u:Option Value}{d:V}{d':Value}(r:RelO o u)(rd:RelV d d'):RelV (o.getD d) (u.getD d'):=by
 cases o with
 |none=>cases u with
  |none=>exact rd
  |some _=>exact(show False from r).elim
 |some _=>cases u with
  |none=>exact(show False from r).elim
  |some _=>exact r
theorem KV.val{aw:List (κ×V)}{vs:List (κ×Value)}(r:KV aw vs)(k:κ):RelO (jl aw k) (valueAt vs k):=by
 unfold KV at r
 induction r with
 |nil=>exact True.intro
 | @cons p q ps qs h t ih=>
   obtain⟨h1,h2⟩:=h
   by_cases e:p.1=k
   ·have e':q.1=k:=h1.symm.trans e
    have b:valueAt (q::qs) k=some q.2:=by simp[valueAt,List.find?_cons,e']
    rw[jo e,b];exact h2
   ·have e':¬q.1=k:=fun z=>e (h1.trans z)
    have b:valueAt (q::qs) k=valueAt qs k:=by simp[valueAt,List.find?_cons,e']
    rw[jm e,b];exact ih
theorem KV.any{aw:List (κ×V)}{vs:List (κ×Value)}(r:KV aw vs)(k:κ):(aw.any fun kv=>decide (kv.1=k))=vs.any fun kv=>decide (kv.1=k):=by
 unfold KV at r
 induction r with
 |nil=>rfl
 |cons h t ih=>rw[List.any_cons,List.any_cons,ih,h.1]
theorem KV.repl{aw:List (κ×V)}{vs:List (κ×Value)}(r:KV aw vs)(k:κ){y:V}{u:Value}(ry:RelV y u):
 KV (aw.map fun kv=>if kv.1=k then(kv.1,y) else kv) (vs.map fun kv=>if kv.1=k then(kv.1,u) else kv):=by
 unfold KV at r⊢
 induction r with
 |nil=>exact .nil
 | @cons p q ps qs h t ih=>
   rw[List.map_cons,List.map_cons]
   refine .cons ?_ ih
   obtain⟨h1,h2⟩:=h
   by_cases e:p.1=k
   ·rw[if_pos e,if_pos (h1.symm.trans e)];exact⟨h1,ry⟩
   ·rw[if_neg e,if_neg (fun z=>e (h1.trans z))];exact⟨h1,h2⟩
theorem KV.put{aw:List (κ×V)}{vs:List (κ×Value)}(r:KV aw vs)(k:κ){y:V}{u:Value}(ry:RelV y u):KV (putK aw k y) (stored vs k u):=by
 unfold putK stored
 rw[r.any k]
 by_cases e:(vs.any fun kv=>decide (kv.1=k))=true
 ·rw[if_pos e,if_pos e];exact r.repl k ry
 ·rw[if_neg e,if_neg e];exact Paired.snoc r ⟨rfl,ry⟩
theorem KV.length{aw:List (κ×V)}{vs:List (κ×Value)}(r:KV aw vs):aw.length=vs.length:=Paired.length r
end
theorem n8{P:Program}{w:World}{k:Key}{u:Value}(r:RelV (kV k) u):(bb P w).is k u=true:=by
 cases k with
 |inl i=>obtain⟨t,e⟩:=(show∃t,u=Value.int i t from r);subst e;exact rB P w i t
 |inr x=>obtain⟨t,e⟩:=(show∃t,u=Value.str x t from r);subst e;exact rC P w x t
theorem Dh{a b:Key}(e:kV a=kV b):a=b:=by
 cases a with
 |inl i=>cases b with
  |inl j=>have e':V.int i=V.int j:=e;injection e' with e';rw[e']
  |inr y=>exact nomatch (show V.int i=V.str y from e)
 |inr x=>cases b with
  |inl j=>exact nomatch (show V.str x=V.int j from e)
  |inr y=>have e':V.str x=V.str y:=e;injection e' with e';rw[e']
theorem u3:∀{a b:List Key},a.map kV=b.map kV→a=b
 |[],[],_=>rfl
 |[],_::_,e=>by simp at e
 |_::_,[],e=>by simp at e
 |x::xs,y::ys,e=>by
  rw[List.map_cons,List.map_cons] at e
  injection e with e1 e2
  rw[Dh e1,u3 e2]
theorem n5{P:Program}{w:World}:∀{ks:List Key}{us:List Value},Vals (ks.map kV) us→ItemsAre (bb P w) ks us
 |[],_,r=>by rw[List.map_nil] at r;cases r;exact .nil
 |k::ks,_,r=>by
  rw[List.map_cons] at r
  cases r with
  |cons h t=>exact .cons (n8 h) (n5 t)
abbrev KT(H:Hp):List (List Key×V)→List (List Key×Addr×Value)→Prop:=Paired fun p q=>p.1=q.1∧H q.2.1=some (.tup (p.1.map kV))∧RelV p.2 q.2.2
theorem KT.val{H:Hp}{aw:List (List Key×V)}{xs:List (List Key×Addr×Value)}(r:KT H aw xs)(k:List Key):RelO (jl aw k) ((atKey xs k).map (·.2)):=by
 induction r with
 |nil=>exact True.intro
 | @cons p q ps qs h t ih=>
   obtain⟨h1,_,h2⟩:=h
   by_cases e:p.1=k
   ·have e':q.1=k:=h1.symm.trans e
    have b:atKey (q::qs) k=some q.2:=by simp[atKey,List.find?_cons,e']
    rw[jo e,b];exact h2
   ·have e':¬q.1=k:=fun z=>e (h1.trans z)
    have b:atKey (q::qs) k=atKey qs k:=by simp[atKey,List.find?_cons,e']
    rw[jm e,b];exact ih
theorem KT.repl{H:Hp}{aw:List (List Key×V)}{xs:List (List Key×Addr×Value)}(r:KT H aw xs)(k:List Key){y:V}{u:Value}(ry:RelV y u):
 KT H (aw.map fun kv=>if kv.1=k then(kv.1,y) else kv) (xs.map (putAt k u)):=by
 induction r with
 |nil=>exact .nil
 | @cons p q ps qs h t ih=>
   rw[List.map_cons,List.map_cons]
   refine .cons ?_ ih
   obtain⟨h1,h2,h3⟩:=h
   unfold putAt
   by_cases e:p.1=k
   ·rw[if_pos e,if_pos (h1.symm.trans e)];exact⟨h1,h2,ry⟩
   ·rw[if_neg e,if_neg (fun z=>e (h1.trans z))];exact⟨h1,h2,h3⟩
theorem KT.put{H:Hp}{aw:List (List Key×V)}{xs:List (List Key×Addr×Value)}(r:KT H aw xs)(k:List Key){b:Addr}{y:V}{u:Value}(hb:H b=some (.tup (k.map kV)))(ry:RelV y u):
 KT H (putK aw k y) (storedH xs k b u):=by
 have e:(aw.any fun kv=>decide (kv.1=k))=(atKey xs k).isSome:=by
  rw[mP,(r.val k).isSome_eq,Option.isSome_map]
 unfold putK storedH
 rw[e]
 by_cases q:(atKey xs k).isSome=true
 ·rw[if_pos q,if_pos q];exact r.repl k ry
 ·rw[if_neg q,if_neg q];exact Paired.snoc r ⟨rfl,hb,ry⟩
theorem KT.keeps{H H':Hp}{aw:List (List Key×V)}{xs:List (List Key×Addr×Value)}(r:KT H aw xs)(ht:∀b ys,H b=some (.tup ys)→H' b=some (.tup ys)):KT H' aw xs:=
 Paired.mapP r fun _ _ z=>⟨z.1,ht _ _ z.2.1,z.2.2⟩
section
variable{P:Program}{w:World}{H:Hp}{h:Heap}{a:Addr}
theorem Cj{u:HO}(ok:HOk P w H h)(e:Rd H a u):ObjOk P w H h a u:=e.ok ok
theorem nM{aw:List (Key×V)}(ok:HOk P w H h)(e:Rd H a (.dK aw)):aw.length≤sizeLine∧(a==sysModules)=false∧∃vs,KV aw vs∧h.DictOf (bb P w) a vs:=
 show ObjOk P w H h a (.dK aw) from Cj ok e
theorem BU{aw:List (Key×V)}(ok:HOk P w H h)(e:H a=some (.dK aw)):aw.length≤sizeLine∧(a==sysModules)=false∧∃vs,KV aw vs∧h.DictOf (bb P w) a vs:=nM ok (.inl e)
theorem jy{ks:List Key}(ok:HOk P w H h)(e:H a=some (.tup (ks.map kV))):(tupleKind (bb P w)).is h ks a:=by
 obtain⟨_,aA,r,o,h1,h2,n,h3⟩:=(show ObjOk P w H h a (.tup (ks.map kV)) from ok a _ e)
 exact⟨o,aA.toArray,n,h1,h2,h3,by simpa using n5 r⟩
theorem lr{aw:List (List Key×V)}(ok:HOk P w H h)(e:Rd H a (.dT aw)):aw.length≤sizeLine∧(a==sysModules)=false∧
 ∃xs,KT H aw xs∧h.DictOfH (tupleKind (bb P w)) a xs:=by
 obtain⟨z,y,xs,r,o,es,ep,h1,h2,h3,h4,h5⟩:=(show ObjOk P w H h a (.dT aw) from Cj ok e)
 refine⟨z,y,xs,r,o,es,ep,h1,h2,h3,h4,fun x hx=>?_,h5⟩
 have all:∀{l:List (List Key×V)}{m:List (List Key×Addr×Value)},KT H l m→∀x∈m,(tupleKind (bb P w)).is h x.1 x.2.1:=by
  intro l m q
  induction q with
  |nil=>intro x hx;exact nomatch hx
  | @cons p q ps qs hq t ih=>
    intro x hx
    rcases List.mem_cons.mp hx with e | hx
    ·subst e
     exact jy ok (by rw[←hq.1];exact hq.2.1)
    ·exact ih x hx
 exact all r x hx
theorem xQ{aw:List (List Key×V)}(ok:HOk P w H h)(e:H a=some (.dT aw)):aw.length≤sizeLine∧(a==sysModules)=false∧
 ∃xs,KT H aw xs∧h.DictOfH (tupleKind (bb P w)) a xs:=lr ok (.inl e)
end
def mX(H:Hp)(a:Addr)(y:V)(r:Option V):Prop:=
 (∃aw k,Rd H a (.dK aw)∧y=kV k∧r=jl aw k)∨∃aw k b,Rd H a (.dT aw)∧y= .ref b∧H b=some (.tup (k.map kV))∧r=jl aw k
def DPut(H:Hp)(a:Addr)(y v:V)(H':Hp):Prop:=
 (∃aw k,H a=some (.dK aw)∧y=kV k∧aw.length<sizeLine∧H'=upd H a (.dK (putK aw k v)))∨
 ∃aw k b,H a=some (.dT aw)∧y= .ref b∧H b=some (.tup (k.map kV))∧aw.length<sizeLine∧H'=upd H a (.dT (putK aw k v))
theorem DPut.k{H:Hp}{a:Addr}{aw:List (Key×V)}{k:Key}{v:V}(e:H a=some (.dK aw))(hl:aw.length<sizeLine):DPut H a (kV k) v (upd H a (.dK (putK aw k v))):= .inl ⟨aw,k,e,rfl,hl,rfl⟩
theorem DPut.t{H:Hp}{a b:Addr}{aw:List (List Key×V)}{k:List Key}{v:V}(e:H a=some (.dT aw))(eb:H b=some (.tup (k.map kV)))(hl:aw.length<sizeLine):
 DPut H a (.ref b) v (upd H a (.dT (putK aw k v))):= .inr ⟨aw,k,b,e,rfl,eb,hl,rfl⟩
section
variable{X:Cx}{pins:List (Addr×Obj)}{σ:St}{H:Hp}{s:Shared}{a:Addr}{y v:V}{u r:Value}{o:Option V}{A:Around}{E:Value→Shared→Prop}
theorem Inv.big(I:Inv X pins σ H s):sysModules<s.heap.objs.size:=by
 have h:mainGlobals<s.heap.objs.size:=(I.mod.glob.keeps I.bk).lt
 exact Nat.lt_trans (by decide) h
theorem vX{Q:Value→Shared→Prop}(hu:A.units+1<cLine)(I:Inv X pins σ H s)(g:mX H a y (some v))(ry:RelV y u)(h:∀w' s',Inv X pins σ H s'→RelV v w'→Q w' s'):
 wpAny (model X.prog X.w) A (getItem (.ref a) u) Q E s:=by
 rcases g with⟨aw,k,e,ey,l⟩ | ⟨aw,k,b,e,ey,eb,l⟩
 ·subst ey
  obtain⟨z,hd,vs,rel,dd⟩:=nM I.hok e
  obtain⟨w',hw,xq⟩:=RelO.some_of (v:=v) (o:=valueAt vs k) (by rw[l];exact rel.val k)
  exact wpAny_getItem_of (n8 ry) dd.mapOf hw (h w' _ (I.tok _) xq)
 ·subst ey
  cases (show u=Value.ref b from ry)
  obtain⟨z,hd,xs,rel,dd⟩:=lr I.hok e
  obtain⟨w',hw,xq⟩:=RelO.some_of (v:=v) (o:=(atKey xs k).map (·.2)) (by rw[l];exact rel.val k)
  obtain⟨p,hp,HX⟩:=Option.map_eq_some_iff.mp hw
  refine wpAny_getItem_heap (tupleKind_room_in1 hu) (jy I.hok eb) dd hp ?_
  rw[HX]
  exact h w' _ (I.tok _) xq
theorem EV{Q:Value→Shared→Prop}(hu:A.units+1<cLine)(I:Inv X pins σ H s)(g:mX H a y o)(ry:RelV y u)(h:∀s',Inv X pins σ H s'→Q (.bool o.isSome) s'):
 wpAny (model X.prog X.w) A (compareOp .In u (.ref a)) Q E s:=by
 rcases g with⟨aw,k,e,ey,l⟩ | ⟨aw,k,b,e,ey,eb,l⟩
 ·subst ey
  obtain⟨z,hd,vs,rel,dd⟩:=nM I.hok e
  refine wpAny_in_of (n8 ry) hd dd.mapOf ?_
  rw[←(rel.val k).isSome_eq,←l]
  exact h _ (I.tok _)
 ·subst ey
  cases (show u=Value.ref b from ry)
  obtain⟨z,hd,xs,rel,dd⟩:=lr I.hok e
  refine wpAny_in_heap (tupleKind_room_in1 hu) (jy I.hok eb) hd dd ?_
  have q:=(rel.val k).isSome_eq
  rw[Option.isSome_map] at q
  rw[←q,←l]
  exact h _ (I.tok _)
theorem Ag{Q:Value→Shared→Prop}(hu:A.units+1<cLine)(I:Inv X pins σ H s)(g:mX H a y o)(ry:RelV y u)(h:∀s',Inv X pins σ H s'→Q (.bool (!o.isSome)) s'):
 wpAny (model X.prog X.w) A (compareOp .NotIn u (.ref a)) Q E s:=by
 rcases g with⟨aw,k,e,ey,l⟩ | ⟨aw,k,b,e,ey,eb,l⟩
 ·subst ey
  obtain⟨z,hd,vs,rel,dd⟩:=nM I.hok e
  refine wpAny_notIn_of (n8 ry) hd dd.mapOf ?_
  rw[←(rel.val k).isSome_eq,←l]
  exact h _ (I.tok _)
 ·subst ey
  cases (show u=Value.ref b from ry)
  obtain⟨z,hd,xs,rel,dd⟩:=lr I.hok e
  refine wpAny_notIn_heap (tupleKind_room_in1 hu) (jy I.hok eb) hd dd ?_
  have q:=(rel.val k).isSome_eq
  rw[Option.isSome_map] at q
  rw[←q,←l]
  exact h _ (I.tok _)
theorem iL{h':Heap}{t':Nat}{ob:HO}(I:Inv X pins σ H s)(mu:EI (H a))(hs:Heap.SameBut a s.heap h')(he:∃q,h'.get? a=some q)(new:ObjOk X.prog X.w (upd H a ob) h' a ob):
 Inv X pins σ (upd H a ob) {s with heap:=h',toks:=t'}:=
 I.write (x:=a) (e:=a) mu (.inl rfl) (fun b q hb z=>(hs.2 b hb).trans z) he new
theorem xP{P:Program}{w:World}{H':Hp}{h':Heap}{aw:List (Key×V)}{vs:List (Key×Value)}(z:aw.length≤sizeLine)(hd:(a==sysModules)=false)(rel:KV aw vs)(dd:h'.DictOf (bb P w) a vs):
 ObjOk P w H' h' a (.dK aw):=⟨z,hd,vs,rel,dd⟩
theorem vY{H':Hp}{Q:Unit→Shared→Prop}(hu:A.units+1<cLine)(I:Inv X pins σ H s)(g:DPut H a y v H')(ry:RelV y u)(rv:RelV v r)(h:∀s',Inv X pins σ H' s'→Q () s'):
 wpAny (model X.prog X.w) A (setItem (.ref a) u r) Q E s:=by
 rcases g with⟨aw,k,e,ey,l,eH⟩ | ⟨aw,k,b,e,ey,eb,l,eH⟩
 ·subst ey eH
  obtain⟨z,hd,vs,rel,dd⟩:=BU I.hok e
  have hz:vs.length≤sizeLine:=by rw[←rel.length];exact z
  have hl:(putK aw k v).length≤sizeLine:=by have:=dH aw k v;omega
  refine wpAny_setItem_pairs (hsz:=hz) (n8 ry) dd fun h' xM hs=>h _ ?_
  have he:∃q,h'.get? a=some q:=let ⟨q,_,_,hq,_⟩:=xM;⟨q,hq⟩
  exact iL I (by rw[e];exact True.intro) hs he (xP hl hd (rel.put k rv) xM)
 ·subst ey eH
  cases (show u=Value.ref b from ry)
  obtain⟨z,hd,xs,rel,dd⟩:=xQ I.hok e
  have hz:xs.length≤sizeLine:=by rw[←Paired.length rel];exact z
  have hl:(putK aw k v).length≤sizeLine:=by have:=dH aw k v;omega
  refine wpAny_setItem_heap (hsz:=hz) (tupleKind_room_in1 hu) (jy I.hok eb) dd fun h' xM hs=>h _ ?_
  obtain⟨q,es,ep,hq,h2,h3,h4,_,h5⟩:=xM
  refine iL I (by rw[e];exact True.intro) hs ⟨q,hq⟩ ⟨hl,hd,_,(rel.put k eb rv).keeps fun c ys ec=>?_,q,es,ep,hq,h2,h3,h4,h5⟩
  rw[av (yE ec e (fun z=>nomatch z))]
  exact ec
end
section
variable{X:Cx}{pins:List (Addr×Obj)}{σ:St}{H:Hp}{s:Shared}{a:Addr}{aw:List (Key×V)}{k:Key}{u:Value}{A:Around}{E:Value→Shared→Prop}
end
def Cq(i:Expr):Prop:=∀ov iv,subscripted i false ov iv=operate [ov,iv] (getItem ov iv)
theorem BE{prog:Program}{w:World}{A:Around}{E:Value→Shared→Prop}{s:Shared}{env:Env}{value slice:Expr}{pos:Pos}{T id:String}{Q:Value→Shared→Prop}
 (hl:typeLookup (.type T) "__getitem__"=pure (some (.builtin id)))(hs:Cq slice)
 (h:wpAny (model prog w) A (eval value env) (fun o s₁=>wpAny (model prog w) A (eval slice env) (fun i s₂=>s₂.TypeIs o T∧wpAny (model prog w) A (getItem o i) Q E s₂) E s₁) E s):
 wpAny (model prog w) A (eval (.Subscript value slice pos) env) Q E s:=by
 refine Subscript_ (wpAny_mono h (fun o s₁ h₁=>wpAny_mono h₁ (fun i s₂ h₂=>?_) fun _ _ x=>x) fun _ _ x=>x)
 obtain⟨hT,h₂⟩:=h₂
 unfold subscriptTail
 refine wpAny_bind ?_
 rw[getitemInPython_of_ne hT.not_modules]
 refine wpAny_bind (wpAny_specialOf hT hl ?_)
 have fin:wpAny (model prog w) A (subscripted slice false o i) (fun r s₃=>wpAny (model prog w) A (letTemporaryGo value o r>>=fun _=>pure r) Q E s₃) E s₂:=by
  rw[hs o i]
  exact wpAny_operating (wpAny_mono h₂ (fun r s₃ h₃=>wpAny_bind (wpAny_letTemporaryGo (wpAny_pure h₃))) fun _ _ x=>x)
 first
  |exact wpAny_pure (wpAny_bind fin)
  |exact wpAny_bind (wpAny_pure (wpAny_bind fin))
  |exact wpAny_bind fin
theorem qV{X:Cx}{pins:List (Addr×Obj)}{σ:St}{H:Hp}{s:Shared}{a:Addr}{y:V}{o:Option V}(I:Inv X pins σ H s)(g:mX H a y o):s.TypeIs (.ref a) "dict":=by
 rcases g with⟨aw,k,e,_,_⟩ | ⟨aw,k,b,e,_,_,_⟩
 ·obtain⟨_,_,vs,_,dd⟩:=nM I.hok e
  exact dd.typeIs
 ·obtain⟨_,_,xs,_,dd⟩:=lr I.hok e
  exact dd.typeIs
def Gu(td ty:TE):TE:=fun σ H Q=>td σ H fun x H1=>ty σ H1 fun y H2=>∃a v,x= .ref a∧mX H2 a y (some v)∧Q v H2
def IW(ty td:TE):TE:=fun σ H Q=>ty σ H fun y H1=>td σ H1 fun x H2=>∃a o,x= .ref a∧mX H2 a y o∧Q (.bl o.isSome) H2
def Gp(td ty tv:TE):TS:=fun D σ H=>tv σ H fun v H1=>td σ H1 fun x H2=>ty σ H2 fun y H3=>∃a H4,x= .ref a∧DPut H3 a y v H4∧D.nx σ H4
section
variable{X:Cx}{o i e value:Expr}{pos pos' Jc:Pos}{td ty tv:TE}
theorem Be(hu:X.A.units+1<cLine)(ho:PE X o td)(hi:PE X i ty)(hs:Cq i):PE X (.Subscript o i pos) (Gu td ty):=by
 intro pins s σ H Q I h
 refine BE PySem.F.slot_dict_getitem.lookup hs (bY (ho pins s σ H _ I h) fun u s1 ⟨x,H1,I1,rx,q1⟩=>bY (hi pins s1 σ H1 _ I1 q1) fun iv s2 ⟨y,H2,I2,ry,a,v,ex,g,q2⟩=>?_)
 subst ex
 obtain rfl:u=Value.ref a:=rx
 exact⟨qV I2 g,vX hu I2 g ry fun w' s3 I3 xq=>⟨v,H2,I3,xq,q2⟩⟩
theorem DG(hu:X.A.units+1<cLine)(hi:PE X i ty)(ho:PE X o td):PC X .In i o (IW ty td):=by
 intro pins s σ H Q I h
 refine bY (hi pins s σ H _ I h) fun iv s1 ⟨y,H1,I1,ry,q1⟩=>bY (ho pins s1 σ H1 _ I1 q1) fun u s2 ⟨x,H2,I2,rx,a,ov,ex,g,q2⟩=>?_
 subst ex
 obtain rfl:u=Value.ref a:=rx
 exact EV hu I2 g ry fun s3 I3=>⟨.bl ov.isSome,H2,I3,rfl,q2⟩
theorem Bm(hu:X.A.units+1<cLine)(ho:PE X o td)(hi:PE X i ty)(hv:PE X value tv)(hs:swapsWith value (some (.Subscript o i pos')) pos.line X.env=pure false):
 PS X (.Assign [.Subscript o i pos'] value pos) (Gp td ty tv):=by
 intro pins s σ H D I h
 refine wpAny_Assign_Subscript (bY (hv pins s σ H _ I h) fun r s1 ⟨v,H1,I1,rv,q1⟩=>bY (ho pins s1 σ H1 _ I1 q1) fun u s2 ⟨x,H2,I2,rx,q2⟩=>bY (hi pins s2 σ H2 _ I2 q2) fun iv s3 ⟨y,H3,I3,ry,a,H4,ex,g,q3⟩=>?_) hs
 subst ex
 obtain rfl:u=Value.ref a:=rx
 exact vY hu I3 g ry rv fun s4 I4=>⟨σ,H4,I4,q3⟩
end
theorem qW{P:Program}{w:World}{H:Hp}(h:Heap)(hb:sysModules<h.objs.size):ObjOk P w H (h.push {cls:= .type "dict",data:= .dict #[]}) h.objs.size (.dT []):=
 ⟨Nat.zero_le _,beq_eq_false_iff_ne.mpr (Ne.symm (Nat.ne_of_lt hb)),[], .nil,_,#[],0,Heap.get?_push_size _ rfl,⟨rfl,rfl,rfl⟩,rfl,rfl,List.nodup_nil⟩
def Em:TE:=fun _ H Q=>∀p,H p=none→Q (.ref p) (upd H p (.dT []))
section
variable{X:Cx}{pos:Pos}
theorem zb:PE X (.Dict [] [] pos) Em:=fun pins s σ H Q I h=>
 wpAny_Dict_empty ⟨.ref s.heap.objs.size,_,I.laid (a:=s.heap.objs.size) (o:= .dT []) (t':=s.toks) (fun _ _ q=>Heap.get?_push_of_some _ q) (Nat.le_refl _) (qW s.heap I.big),rfl,h _ (I.hok.fresh (Nat.le_refl _))⟩
end
def zU:List (TE×TE)→St→Hp→(List (V×V)→Hp→Prop)→Prop
 |[],_,H,Q=>Q [] H
 |(tk,tv)::r,σ,H,Q=>tk σ H fun x H1=>tv σ H1 fun y H2=>zU r σ H2 fun ps H3=>Q ((x,y)::ps) H3
abbrev VV:List (V×V)→List (Value×Value)→Prop:=Paired fun p q=>RelV p.1 q.1∧RelV p.2 q.2
def Hb(X:Cx)(pos:Pos)(keys:List (Option Expr))(values:List Expr)(G6:List (TE×TE)):Prop:=
 ∀(pins:List (Addr×Obj)) (s:Shared) (σ:St) (H:Hp) (Q:List (V×V)→Hp→Prop),Inv X pins σ H s→zU G6 σ H Q→
  wpAny (model X.prog X.w) X.A (evalPairs (pairTrees keys values X.env pos)) (fun vs s'=>∃ps H',Inv X pins σ H' s'∧VV ps vs∧Q ps H') X.xe s
theorem Bj{X:Cx}{pos:Pos}:Hb X pos [] [] []:=fun pins s σ H Q I h=>pairTrees_nil_walk ⟨[],H,I, .nil,h⟩
theorem zf{X:Cx}{pos:Pos}{k v:Expr}{ks:List (Option Expr)}{vs:List Expr}{tk tv:TE}{G6:List (TE×TE)}(hk:PE X k tk)(hv:PE X v tv)(hr:Hb X pos ks vs G6):
 Hb X pos (some k::ks) (v::vs) ((tk,tv)::G6):=fun pins s σ H Q I h=>
 pairTrees_cons_walk (bY (hk pins s σ H _ I h) fun u s1 ⟨x,H1,I1,rx,q1⟩=>bY (hv pins s1 σ H1 _ I1 q1) fun w2 s2 ⟨y,H2,I2,ry,q2⟩=>
  bY (hr pins s2 σ H2 _ I2 q2) fun ws s3 ⟨ps,H3,I3,rel,q3⟩=>⟨(x,y)::ps,H3,I3, .cons ⟨rx,ry⟩ rel,q3⟩)
structure M1 (X:Cx) (o:Expr) (m:Str) (apos:Pos) (e:Expr) (bf:Pos):Prop where
 base:attributeBase o m X.env (eval o X.env)=eval o X.env
 few:((backTo bf (starEach [e] X.env)).all (fun x=>!x.1)&&(backToKw bf (keywordEach [] X.env)).all (fun x=>x.1.isSome)
  &&decide (([e]:List Expr).length+([]:List Keyword).length+(if ([]:List Keyword).isEmpty then 0 else 1)<30))=true
 line:(apos.endLine==bf.line)=true
 trees:backTo bf (starEach [e] X.env)=[(false,eval e X.env)]
structure M2 (X:Cx) (o:Expr) (m:Str) (apos:Pos) (e f:Expr) (bf:Pos):Prop where
 base:attributeBase o m X.env (eval o X.env)=eval o X.env
 few:((backTo bf (starEach [e,f] X.env)).all (fun x=>!x.1)&&(backToKw bf (keywordEach [] X.env)).all (fun x=>x.1.isSome)
  &&decide (([e,f]:List Expr).length+([]:List Keyword).length+(if ([]:List Keyword).isEmpty then 0 else 1)<30))=true
 line:(apos.endLine==bf.line)=true
 trees:backTo bf (starEach [e,f] X.env)=[(false,eval e X.env),(false,eval f X.env)]
def Jf(H:Hp)(a:Addr):Prop:=(∃aw,Rd H a (.dK aw))∨∃aw,Rd H a (.dT aw)
theorem C9{X:Cx}{pins:List (Addr×Obj)}{σ:St}{H:Hp}{s:Shared}{a:Addr}(I:Inv X pins σ H s)(d:Jf H a):
 s.TypeIs (.ref a) "dict"∧(∀b,Value.ref a= .ref b→∃ob,s.heap.get? b=some ob∧ob.dict=none)∧(a==sysModules)=false:=by
 rcases d with⟨aw,e⟩ | ⟨aw,e⟩
 ·obtain⟨_,hd,vs,_,dd⟩:=nM I.hok e
  refine⟨dd.typeIs,fun b q=>?_,hd⟩
  cases q
  obtain⟨ob,_,_,h1,h2,_⟩:=dd
  exact⟨ob,h1,h2.2.1⟩
 ·obtain⟨_,hd,xs,_,dd⟩:=lr I.hok e
  refine⟨dd.typeIs,fun b q=>?_,hd⟩
  cases q
  obtain⟨ob,_,_,h1,h2,_⟩:=dd
  exact⟨ob,h1,h2.2.1⟩
section
variable{X:Cx}{pins:List (Addr×Obj)}{σ:St}{H:Hp}{s:Shared}{a:Addr}{y d:V}{u r:Value}{o:Option V}{A:Around}{E:Value→Shared→Prop}
end
section
variable{X:Cx}{o e f:Expr}{apos bf:Pos}{td ty tx:TE}
end
section
variable{X:Cx}{pins:List (Addr×Obj)}{σ:St}{H:Hp}{s:Shared}{a:Addr}{aw:List (Key×V)}{A:Around}{E:Value→Shared→Prop}
end
section
variable{X:Cx}{pins:List (Addr×Obj)}{σ:St}{H:Hp}{s:Shared}{a:Addr}{y:V}{u:Value}{A:Around}{E:Value→Shared→Prop}
end
end L2
namespace L3
open PySem PySem.Spec L2
open PyProof.Rows hiding St
inductive Rs (α:Type) where
 |ok (a:α) | ex (n:Nat)
def M(α:Type):=Option (Rs α)
def M.ret{α:Type}(a:α):M α:=some (.ok a)
def M.bind{α β:Type}(m:M α)(k:α→M β):M β:=match m with
 |none=>none
 |some (.ex n)=>some (.ex n)
 |some (.ok a)=>k a
def M.stuck{α:Type}:M α:=none
def M.raise{α:Type}(n:Nat):M α:=some (.ex n)
instance:Monad M where
 pure:=M.ret
 bind:=M.bind
@[simp] theorem aq{α β:Type}(a:α)(k:α→M β):(M.ret a>>=k)=k a:=rfl
@[simp] theorem Cu{α β:Type}(a:α)(k:α→M β):((pure a:M α)>>=k)=k a:=rfl
@[simp] theorem Cv{α β:Type}(n:Nat)(k:α→M β):(M.raise n>>=k)=M.raise n:=rfl
@[simp] theorem Cw{α β:Type}(k:α→M β):((M.stuck:M α)>>=k)=M.stuck:=rfl
theorem M.cs{α:Type}(m:M α):m=M.stuck∨(∃n,m=M.raise n)∨∃a,m=M.ret a:=by
 match m with
 |none=>exact .inl rfl
 |some (.ex n)=>exact .inr (.inl ⟨n,rfl⟩)
 |some (.ok a)=>exact .inr (.inr ⟨a,rfl⟩)
theorem eP{α:Type}{a b:α}(h:M.ret a=M.ret b):a=b:=by
 have h:some (Rs.ok a)=some (Rs.ok b):=h
 cases h
 rfl
theorem gK{α:Type}{a:α}(h:M.stuck=M.ret a):False:=by
 have h:none=some (Rs.ok a):=h
 cases h
theorem zu{α:Type}{n:Nat}{a:α}(h:M.raise n=M.ret a):False:=by
 have h:some (Rs.ex n)=some (Rs.ok a):=h
 cases h
theorem fB{α β:Type}{m:M α}{k:α→M β}{r:β}(h:(m>>=k)=M.ret r):∃a,m=M.ret a∧k a=M.ret r:=by
 rcases m.cs with e | ⟨n,e⟩ | ⟨a,e⟩
 ·subst e;exact(gK h).elim
 ·subst e;exact(zu h).elim
 ·subst e;exact⟨a,rfl,h⟩
def EF(h:Heap)(ea D:Addr):Prop:=∃ox,h.get? ea=some ox∧ox.cls= .ref D
def Kh(ea D:Addr):HO:= .ext fun h=>EF h ea D
inductive D where
 |non | bl (b:Bool) | int (i:Int) | str (x:Str) | raw (v:V) | exc (C:Addr) | scr (l:List Int) | tup (l:List D) | lst (l:List D)
 |dct (ks:List (List Key)) (l:List D) | dci (ks:List Key) (l:List D)
instance:Inhabited D:=⟨.non⟩
def lim:Nat:=4096
theorem cf:lim<sizeLine:=by rw[sizeLine_eq];decide
mutual
def Den(K:W.Frag)(F:Hp):D→V→Prop
 | .non,v=>v= .non
 | .bl b,v=>v= .bl b
 | .int i,v=>v= .int i
 | .str x,v=>v= .str x∧x.length≤lim
 | .raw u,v=>v=u
 | .exc C,v=>∃ea,v= .ref ea∧F ea=some (Kh ea C)
 | .scr ns,v=>∃a,v= .ref a∧SqL K F a (ns.map V.int)∧ns.length≤lim
 | .tup ds,v=>∃a vs,v= .ref a∧F a=some (.tup vs)∧DenL K F ds vs∧ds.length≤lim
 | .lst ds,v=>∃a vs,v= .ref a∧F a=some (.lst vs)∧DenL K F ds vs∧ds.length≤lim
 | .dct ks ds,v=>∃a ob vs,v= .ref a∧F a=some (.frz ob (.dT (ks.zip vs)))∧DenL K F ds vs∧ks.length=ds.length∧ds.length≤lim
 | .dci ks ds,v=>∃a ob vs,v= .ref a∧F a=some (.frz ob (.dK (ks.zip vs)))∧DenL K F ds vs∧ks.length=ds.length∧ds.length≤lim
def DenL(K:W.Frag)(F:Hp):List D→List V→Prop
 |[],vs=>vs=[]
 |d::ds,vs=>∃v r,vs=v::r∧Den K F d v∧DenL K F ds r
end
theorem Same.rd{H H':Hp}{a:Addr}{u:HO}(e:Same H H')(h:Rd H a u):Rd H' a u:=by
 rcases h with h | ⟨o,h⟩
 ·exact .inl (e _ _ h)
 ·exact .inr ⟨o,e _ _ h⟩
theorem Same.tup{K:W.Frag}{H H':Hp}{a:Addr}{xs:List V}(e:Same H H')(h:SqT K H a xs):SqT K H' a xs:=by
 rcases h with h | h
 ·exact .inl (Same.rd e h)
 ·exact .inr h
section
variable{K:W.Frag}{F F':Hp}
mutual
theorem Den.mono(e:Same F F'):∀{d:D}{v:V},Den K F d v→Den K F' d v
 | .non,_,h=>h
 | .bl _,_,h=>h
 | .int _,_,h=>h
 | .str _,_,h=>h
 | .raw _,_,h=>h
 | .exc _,_,⟨a,h1,h2⟩=>⟨a,h1,e _ _ h2⟩
 | .scr _,_,⟨a,h1,h2,h3⟩=>⟨a,h1,Same.seq e h2,h3⟩
 | .tup _,_,⟨a,vs,h1,h2,h3,h4⟩=>⟨a,vs,h1,e _ _ h2,DenL.mono e h3,h4⟩
 | .lst _,_,⟨a,vs,h1,h2,h3,h4⟩=>⟨a,vs,h1,e _ _ h2,DenL.mono e h3,h4⟩
 | .dct _ _,_,⟨a,ob,vs,h1,h2,h3,h4⟩=>⟨a,ob,vs,h1,e _ _ h2,DenL.mono e h3,h4⟩
 | .dci _ _,_,⟨a,ob,vs,h1,h2,h3,h4⟩=>⟨a,ob,vs,h1,e _ _ h2,DenL.mono e h3,h4⟩
theorem DenL.mono(e:Same F F'):∀{ds:List D}{vs:List V},DenL K F ds vs→DenL K F' ds vs
 |[],_,h=>h
 |_::_,_,⟨v,r,h1,h2,h3⟩=>⟨v,r,h1,Den.mono e h2,DenL.mono e h3⟩
end
theorem DenL.nil:DenL K F [] []:=rfl
theorem DenL.cons{d:D}{v:V}{ds:List D}{vs:List V}(h:Den K F d v)(r:DenL K F ds vs):DenL K F (d::ds) (v::vs):=⟨v,vs,rfl,h,r⟩
theorem DenL.len:∀{ds:List D}{vs:List V},DenL K F ds vs→ds.length=vs.length
 |[],_,h=>by cases (show _=_ from h);rfl
 |_::ds,_,⟨v,r,h1,_,h3⟩=>by subst h1;rw[List.length_cons,List.length_cons,DenL.len h3]
theorem DenL.get:∀{ds:List D}{vs:List V}{i:Nat}{d:D},DenL K F ds vs→ds[i]? =some d→∃v,vs[i]? =some v∧Den K F d v
 |[],_,_,_,_,e=>by simp at e
 |d::ds,_,0,_,⟨v,r,h1,h2,h3⟩,e=>by subst h1;simp at e;subst e;exact⟨v,rfl,h2⟩
 |d::ds,_,i+1,_,⟨v,r,h1,h2,h3⟩,e=>by
  subst h1
  obtain⟨w,e1,e2⟩:=DenL.get (i:=i) h3 (by simpa using e)
  exact⟨w,by simpa using e1,e2⟩
theorem DenL.at:∀{ds:List D}{vs:List V}{i:Nat}{v:V},DenL K F ds vs→vs[i]? =some v→∃d,ds[i]? =some d∧Den K F d v
 |[],_,_,_,h,e=>by cases (show _=_ from h);simp at e
 |d::ds,_,0,_,⟨v,r,h1,h2,h3⟩,e=>by subst h1;simp at e;subst e;exact⟨d,rfl,h2⟩
 |d::ds,_,i+1,_,⟨v,r,h1,h2,h3⟩,e=>by
  subst h1
  obtain⟨w,e1,e2⟩:=DenL.at (i:=i) h3 (by simpa using e)
  exact⟨w,by simpa using e1,e2⟩
theorem DenL.append:∀{ds es:List D}{vs ws:List V},DenL K F ds vs→DenL K F es ws→DenL K F (ds++es) (vs++ws)
 |[],_,_,_,h,h'=>by cases (show _=_ from h);exact h'
 |d::ds,_,_,_,⟨v,r,h1,h2,h3⟩,h'=>by subst h1;exact⟨v,_,rfl,h2,DenL.append h3 h'⟩
theorem DenL.take:∀{ds:List D}{vs:List V}(n:Nat),DenL K F ds vs→DenL K F (ds.take n) (vs.take n)
 |_,_,0,_=>by simp[List.take];rfl
 |[],_,_+1,h=>by cases (show _=_ from h);rfl
 |d::ds,_,n+1,⟨v,r,h1,h2,h3⟩=>by subst h1;exact⟨v,_,rfl,h2,DenL.take n h3⟩
theorem DenL.drop:∀{ds:List D}{vs:List V}(n:Nat),DenL K F ds vs→DenL K F (ds.drop n) (vs.drop n)
 |_,_,0,h=>by simpa using h
 |[],_,_+1,h=>by cases (show _=_ from h);rfl
 |d::ds,_,n+1,⟨v,r,h1,h2,h3⟩=>by subst h1;exact DenL.drop n h3
theorem DenL.ints(ns:List Int):DenL K F (ns.map D.int) (ns.map V.int):=by
 induction ns with
 |nil=>rfl
 |cons n ns ih=>exact .cons rfl ih
end
structure Ext (F H F' H':Hp):Prop where
 hh:Same H H'
 ff:Same F F'
 fh:Same F' H'
 new:∀a,H a≠none→F' a=F a∨∃ts,H a=some (.tup ts)
theorem Ext.old{F H F' H':Hp}(e:Ext F H F' H'){a:Addr}{o:HO}(h:H a=some o)(hn:∀ts,o≠ .tup ts):F' a=F a:=by
 rcases e.new a (by rw[h];exact fun z=>nomatch z) with q | ⟨ts,q⟩
 ·exact q
 ·rw[h] at q;cases q;exact absurd rfl (hn ts)
theorem Ext.refl{F H:Hp}(h:Same F H):Ext F H F H:=⟨Same.refl _,Same.refl _,h,fun _ _=> .inl rfl⟩
theorem Ext.trans{F H F' H' F'' H'':Hp}(a:Ext F H F' H')(b:Ext F' H' F'' H''):Ext F H F'' H'':=
 ⟨a.hh.trans b.hh,a.ff.trans b.ff,b.fh,fun c hc=>by
  have:H' c≠none:=by
   cases q:H c with
   |none=>exact absurd q hc
   |some o=>rw[a.hh c o q];exact fun z=>nomatch z
  rcases a.new c hc with p | p
  ·rcases b.new c this with q | ⟨ts,q⟩
   ·exact .inl (q.trans p)
   ·cases z:H c with
    |none=>exact absurd z hc
    |some o=>
     rw[a.hh c o z] at q
     exact .inr ⟨ts,q⟩
  ·exact .inr p⟩
theorem Ext.lay{F H:Hp}{a:Addr}{o:HO}(h:Same F H)(n:H a=none):Ext F H (upd F a o) (upd H a o):=by
 have nf:F a=none:=Same.free h n
 refine⟨fun b u e=>?_,fun b u e=>?_,fun b u e=>?_,fun b hb=>?_⟩
 ·rw[av (aV e n)];exact e
 ·rw[av (aV e nf)];exact e
 ·by_cases q:b=a
  ·subst q;rw[aF] at e⊢;exact e
  ·rw[av q] at e⊢;exact h b u e
 ·exact .inl (av fun z=>hb (by rw[z];exact n))
theorem Ext.free{F H:Hp}{a:Addr}{o:HO}(h:Same F H)(n:H a=none):Ext F H F (upd H a o):=
 ⟨fun b u e=>by rw[av (aV e n)];exact e,Same.refl _,fun b u e=>by rw[av (aV (h b u e) n)];exact h b u e,fun _ _=> .inl rfl⟩
theorem Ext.tup{F H:Hp}{a:Addr}{ts:List V}(h:Same F H)(e:H a=some (.tup ts)):Ext F H (upd F a (.tup ts)) H:=by
 refine⟨Same.refl _,fun b u q=>?_,fun b u q=>?_,fun b hb=>?_⟩
 ·by_cases z:b=a
  ·subst z;rw[aF,←e];exact h b u q
  ·rw[av z];exact q
 ·by_cases z:b=a
  ·subst z;rw[aF] at q;rw[e];exact q
  ·rw[av z] at q;exact h b u q
 ·by_cases z:b=a
  ·subst z;exact .inr ⟨ts,e⟩
  ·exact .inl (av z)
def WP(K:W.Frag)(Xw:Nat→Hp→Prop)(F H:Hp)(m:M D)(Q:VK):Prop:=
 match m with
 |none=>False
 |some (.ok d)=>∀v H' F',Ext F H F' H'→Den K F' d v→Q v H'
 |some (.ex n)=>∀F' H',Ext F H F' H'→Xw n H'
def WPL(K:W.Frag)(Xw:Nat→Hp→Prop)(F H:Hp)(m:M (List D))(Q:List V→Hp→Prop):Prop:=
 match m with
 |none=>False
 |some (.ok ds)=>∀vs H' F',Ext F H F' H'→DenL K F' ds vs→Q vs H'
 |some (.ex n)=>∀F' H',Ext F H F' H'→Xw n H'
def WPB(Xw:Nat→Hp→Prop)(F H:Hp)(m:M Bool)(Q:Bool→Hp→Prop):Prop:=
 match m with
 |none=>False
 |some (.ok b)=>∀H' F',Ext F H F' H'→Q b H'
 |some (.ex n)=>∀F' H',Ext F H F' H'→Xw n H'
section
variable{K:W.Frag}{Xw:Nat→Hp→Prop}{F F' H H':Hp}{Q:VK}
theorem WP.ext{m:M D}(e:Ext F H F' H')(h:WP K Xw F H m Q):WP K Xw F' H' m Q:=by
 match m,h with
 |none,h=>exact h
 |some (.ok d),h=>exact fun v H2 F2 e2 q=>h v H2 F2 (e.trans e2) q
 |some (.ex n),h=>exact fun F2 H2 e2=>h F2 H2 (e.trans e2)
theorem WPL.ext{m:M (List D)}{Q:List V→Hp→Prop}(e:Ext F H F' H')(h:WPL K Xw F H m Q):WPL K Xw F' H' m Q:=by
 match m,h with
 |none,h=>exact h
 |some (.ok d),h=>exact fun v H2 F2 e2 q=>h v H2 F2 (e.trans e2) q
 |some (.ex n),h=>exact fun F2 H2 e2=>h F2 H2 (e.trans e2)
theorem WPB.ext{m:M Bool}{Q:Bool→Hp→Prop}(e:Ext F H F' H')(h:WPB Xw F H m Q):WPB Xw F' H' m Q:=by
 match m,h with
 |none,h=>exact h
 |some (.ok d),h=>exact fun H2 F2 e2=>h H2 F2 (e.trans e2)
 |some (.ex n),h=>exact fun F2 H2 e2=>h F2 H2 (e.trans e2)
theorem WP.fin{d:D}{v:V}(h:WP K Xw F H (M.ret d) Q)(e:Ext F H F' H')(q:Den K F' d v):Q v H':=h v H' F' e q
theorem WP.now{d:D}{v:V}(h:WP K Xw F H (M.ret d) Q)(s:Same F H)(q:Den K F d v):Q v H:=h v H F (Ext.refl s) q
theorem WP.bind{m:M D}{k:D→M D}(h:WP K Xw F H (m>>=k) Q):WP K Xw F H m fun v H1=>∃F1 d,Ext F H F1 H1∧Den K F1 d v∧WP K Xw F1 H1 (k d) Q:=by
 match m,h with
 |none,h=>exact h
 |some (.ok d),h=>exact fun v H2 F2 e2 q=>⟨F2,d,e2,q,WP.ext e2 (show WP K Xw F H (k d) Q from h)⟩
 |some (.ex n),h=>exact h
theorem WP.bindL{m:M (List D)}{k:List D→M D}(h:WP K Xw F H (m>>=k) Q):WPL K Xw F H m fun vs H1=>∃F1 ds,Ext F H F1 H1∧DenL K F1 ds vs∧WP K Xw F1 H1 (k ds) Q:=by
 match m,h with
 |none,h=>exact h
 |some (.ok d),h=>exact fun v H2 F2 e2 q=>⟨F2,d,e2,q,WP.ext e2 (show WP K Xw F H (k d) Q from h)⟩
 |some (.ex n),h=>exact h
theorem WPB.bind{m:M D}{k:D→M Bool}{Q:Bool→Hp→Prop}(h:WPB Xw F H (m>>=k) Q):WP K Xw F H m fun v H1=>∃F1 d,Ext F H F1 H1∧Den K F1 d v∧WPB Xw F1 H1 (k d) Q:=by
 match m,h with
 |none,h=>exact h
 |some (.ok d),h=>exact fun v H2 F2 e2 q=>⟨F2,d,e2,q,WPB.ext e2 (show WPB Xw F H (k d) Q from h)⟩
 |some (.ex n),h=>exact h
theorem WPB.bindB{m:M Bool}{k:Bool→M Bool}{Q:Bool→Hp→Prop}(h:WPB Xw F H (m>>=k) Q):WPB Xw F H m fun b H1=>∃F1,Ext F H F1 H1∧WPB Xw F1 H1 (k b) Q:=by
 match m,h with
 |none,h=>exact h
 |some (.ok d),h=>exact fun H2 F2 e2=>⟨F2,e2,WPB.ext e2 (show WPB Xw F H (k d) Q from h)⟩
 |some (.ex n),h=>exact h
theorem WPL.bind{m:M D}{k:D→M (List D)}{Q:List V→Hp→Prop}(h:WPL K Xw F H (m>>=k) Q):WP K Xw F H m fun v H1=>∃F1 d,Ext F H F1 H1∧Den K F1 d v∧WPL K Xw F1 H1 (k d) Q:=by
 match m,h with
 |none,h=>exact h
 |some (.ok d),h=>exact fun v H2 F2 e2 q=>⟨F2,d,e2,q,WPL.ext e2 (show WPL K Xw F H (k d) Q from h)⟩
 |some (.ex n),h=>exact h
theorem WPL.bindL{m:M (List D)}{k:List D→M (List D)}{Q:List V→Hp→Prop}(h:WPL K Xw F H (m>>=k) Q):WPL K Xw F H m fun vs H1=>∃F1 ds,Ext F H F1 H1∧DenL K F1 ds vs∧WPL K Xw F1 H1 (k ds) Q:=by
 match m,h with
 |none,h=>exact h
 |some (.ok d),h=>exact fun v H2 F2 e2 q=>⟨F2,d,e2,q,WPL.ext e2 (show WPL K Xw F H (k d) Q from h)⟩
 |some (.ex n),h=>exact h
theorem WP.mono{m:M D}{Q':VK}(h:WP K Xw F H m Q)(k:∀v H',Q v H'→Q' v H'):WP K Xw F H m Q':=by
 match m,h with
 |none,h=>exact h
 |some (.ok d),h=>exact fun v H2 F2 e2 q=>k _ _ (h v H2 F2 e2 q)
 |some (.ex n),h=>exact h
theorem WPL.mono{m:M (List D)}{Q Q':List V→Hp→Prop}(h:WPL K Xw F H m Q)(k:∀v H',Q v H'→Q' v H'):WPL K Xw F H m Q':=by
 match m,h with
 |none,h=>exact h
 |some (.ok d),h=>exact fun v H2 F2 e2 q=>k _ _ (h v H2 F2 e2 q)
 |some (.ex n),h=>exact h
theorem WPB.mono{m:M Bool}{Q Q':Bool→Hp→Prop}(h:WPB Xw F H m Q)(k:∀v H',Q v H'→Q' v H'):WPB Xw F H m Q':=by
 match m,h with
 |none,h=>exact h
 |some (.ok d),h=>exact fun H2 F2 e2=>k _ _ (h H2 F2 e2)
 |some (.ex n),h=>exact h
end
inductive C where
 |lst (l:List D) | dct (ks:List (List Key)) (l:List D) | dci (ks:List Key) (l:List D)
def C.d:C→D
 | .lst ds=> .lst ds
 | .dct ks ds=> .dct ks ds
 | .dci ks ds=> .dci ks ds
inductive Sl where
 |fz (d:D) | ow (c:C)
abbrev a5:=List (Option Sl)
def DenC(K:W.Frag)(F:Hp):C→HO→Prop
 | .lst ds,o=>∃vs,o= .lst vs∧DenL K F ds vs∧ds.length≤lim
 | .dct ks ds,o=>∃vs,o= .dT (ks.zip vs)∧DenL K F ds vs∧ks.length=ds.length∧ds.length≤lim
 | .dci ks ds,o=>∃vs,o= .dK (ks.zip vs)∧DenL K F ds vs∧ks.length=ds.length∧ds.length≤lim
theorem DenC.mono{K:W.Frag}{F F':Hp}(e:Same F F'):∀{c:C}{o:HO},DenC K F c o→DenC K F' c o
 | .lst _,_,⟨vs,h1,h2,h3⟩=>⟨vs,h1,DenL.mono e h2,h3⟩
 | .dct _ _,_,⟨vs,h1,h2,h3⟩=>⟨vs,h1,DenL.mono e h2,h3⟩
 | .dci _ _,_,⟨vs,h1,h2,h3⟩=>⟨vs,h1,DenL.mono e h2,h3⟩
theorem DenC.notup{K:W.Frag}{F:Hp}:∀{c:C}{o:HO},DenC K F c o→∀ts,o≠ .tup ts
 | .lst _,_,⟨_,h1,_⟩,ts,z=>by rw[h1] at z;cases z
 | .dct _ _,_,⟨_,h1,_⟩,ts,z=>by rw[h1] at z;cases z
 | .dci _ _,_,⟨_,h1,_⟩,ts,z=>by rw[h1] at z;cases z
def kJ(ob:Obj):HO→HO
 | .dT aw=> .frz ob (.dT aw)
 | .dK aw=> .frz ob (.dK aw)
 |o=>o
theorem DenC.den{K:W.Frag}{F F':Hp}{a:Addr}{ob:Obj}:∀{c:C}{o:HO},DenC K F c o→Same F F'→F' a=some (kJ ob o)→Den K F' c.d (.ref a)
 | .lst _,_,⟨vs,h1,h2,h3⟩,e,q=>by subst h1;exact⟨a,vs,rfl,q,DenL.mono e h2,h3⟩
 | .dct _ _,_,⟨vs,h1,h2,h3⟩,e,q=>by subst h1;exact⟨a,ob,vs,rfl,q,DenL.mono e h2,h3⟩
 | .dci _ _,_,⟨vs,h1,h2,h3⟩,e,q=>by subst h1;exact⟨a,ob,vs,rfl,q,DenL.mono e h2,h3⟩
def DenO(K:W.Frag)(F H:Hp):Sl→V→Prop
 | .fz d,v=>Den K F d v
 | .ow c,v=>∃a o,v= .ref a∧H a=some o∧F a=none∧DenC K F c o
structure StE (K:W.Frag) (F H:Hp) (σ:St) (ρ:a5):Prop where
 fh:Same F H
 den:∀(i:Nat) (sl:Sl),ρ[i]? =some (some sl)→∃v,σ[i]? =some (some v)∧DenO K F H sl v
theorem DenO.ext{K:W.Frag}{F H F' H':Hp}(e:Ext F H F' H'):∀{sl:Sl}{v:V},DenO K F H sl v→DenO K F' H' sl v
 | .fz _,_,h=>Den.mono e.ff h
 | .ow _,_,⟨a,o,h1,h2,h3,h4⟩=>⟨a,o,h1,e.hh _ _ h2,by rw[e.old h2 h4.notup];exact h3,DenC.mono e.ff h4⟩
theorem StE.ext{K:W.Frag}{F H F' H':Hp}{σ:St}{ρ:a5}(s:StE K F H σ ρ)(e:Ext F H F' H'):StE K F' H' σ ρ:=
 ⟨e.fh,fun i sl q=>let ⟨v,h1,h2⟩:=s.den i sl q;⟨v,h1,h2.ext e⟩⟩
abbrev DE:=a5→M D
abbrev DT:=a5→M Bool
abbrev DA:=a5→M (List D)
def tD(K:W.Frag)(Xw:Nat→Hp→Prop)(δ:DE):TE:=fun σ H Q=>∃F ρ,StE K F H σ ρ∧WP K Xw F H (δ ρ) Q
def IX(K:W.Frag)(Xw:Nat→Hp→Prop)(δ:DT):TT:=fun σ H Q=>∃F ρ,StE K F H σ ρ∧WPB Xw F H (δ ρ) Q
def Kb(K:W.Frag)(Xw:Nat→Hp→Prop)(δ:DA):TA:=fun σ H Q=>∃F ρ,StE K F H σ ρ∧WPL K Xw F H (δ ρ) Q
def PD(X:Cx)(Xw:Nat→Hp→Prop)(e:Expr)(δ:DE):Prop:=PE X e (tD X.K Xw δ)
def o8(X:Cx)(Xw:Nat→Hp→Prop)(e:Expr)(δ:DT):Prop:=PT X e (IX X.K Xw δ)
def k7(X:Cx)(Xw:Nat→Hp→Prop)(es:List Expr)(δ:DA):Prop:=PA X es (Kb X.K Xw δ)
theorem PE.weak{X:Cx}{e:Expr}{t t':TE}(h:PE X e t)(k:∀σ H Q,t' σ H Q→t σ H Q):PE X e t':=fun pins s σ H Q I w=>h pins s σ H Q I (k σ H Q w)
theorem PT.weak{X:Cx}{e:Expr}{t t':TT}(h:PT X e t)(k:∀σ H Q,t' σ H Q→t σ H Q):PT X e t':=fun pins s σ H Q I w=>h pins s σ H Q I (k σ H Q w)
theorem PA.weak{X:Cx}{e:List Expr}{t t':TA}(h:PA X e t)(k:∀σ H Q,t' σ H Q→t σ H Q):PA X e t':=fun pos pins s σ H Q I w=>h pos pins s σ H Q I (k σ H Q w)
def dV(i:Nat):DE:=fun ρ=>match ρ[i]? with
 |some (some (.fz d))=>M.ret d
 |_=>M.stuck
def dC(d:D):DE:=fun _=>M.ret d
def d1(g:D→M D)(a:DE):DE:=fun ρ=>a ρ>>=g
def d2(g:D→D→M D)(a b:DE):DE:=fun ρ=>a ρ>>=fun x=>b ρ>>=fun y=>g x y
def aN:DA:=fun _=>M.ret []
def aC(a:DE)(r:DA):DA:=fun ρ=>a ρ>>=fun x=>r ρ>>=fun xs=>M.ret (x::xs)
def dA(g:List D→M D)(a:DA):DE:=fun ρ=>a ρ>>=g
def xl:D→M Bool
 | .bl b=>M.ret b
 |_=>M.stuck
def c0(a:DE):DT:=fun ρ=>a ρ>>=xl
def pq(a b:DT):DT:=fun ρ=>a ρ>>=fun x=>if x then M.ret true else b ρ
def cq(a:DT):DT:=fun ρ=>a ρ>>=fun x=>M.ret (!x)
def eh(a b:DE):DE:=fun ρ=>a ρ>>=fun x=>xl x>>=fun c=>if c then b ρ else M.ret (.bl false)
def BQ(a:DE):DE:=fun ρ=>a ρ>>=fun x=>xl x>>=fun c=>M.ret (.bl (!c))
section
variable{X:Cx}{Xw:Nat→Hp→Prop}{a b:Expr}{δa δb:DE}{pos:Pos}
theorem ab{i:Nat}{x:Str}(h:PE X (.Name x pos) (mN i)):PD X Xw (.Name x pos) (dV i):=PE.weak h fun σ H Q ⟨F,ρ,s,w⟩=>by
 unfold dV at w
 split at w
 ·rename_i d e
  obtain⟨v,h1,h2⟩:=s.den i _ e
  exact⟨v,h1,WP.now w s.fh h2⟩
 ·exact w.elim
theorem fo{e:Expr}{d:D}{v:V}(h:PE X e (tC v))(hd:∀F,Den X.K F d v):PD X Xw e (dC d):=PE.weak h fun σ H Q ⟨F,ρ,s,w⟩=>WP.now w s.fh (hd F)
theorem ar{i j}:PD X Xw (.Constant (.int i) j pos) (dC (.int i)):=fo DR fun _=>rfl
theorem dN{i j}:PD X Xw (.Constant (.bool i) j pos) (dC (.bl i)):=fo F4 fun _=>rfl
theorem DL{j}:PD X Xw (.Constant .none j pos) (dC .non):=fo DU fun _=>rfl
theorem iB{x j}(h:x.length≤lim:=by decide):PD X Xw (.Constant (.str x) j pos) (dC (.str x)):=fo DX fun _=>⟨rfl,h⟩
def qF(K:W.Frag)(r:R2)(g:D→D→M D):Prop:=∀(Xw:Nat→Hp→Prop) (F H:Hp) (x y:V) (dx dy:D) (Q:VK),Same F H→Den K F dx x→Den K F dy y→WP K Xw F H (g dx dy) Q→r x y H Q
theorem qz{r:R2}{g:D→D→M D}(hg:qF X.K r g):∀σ H Q,tD X.K Xw (d2 g δa δb) σ H Q→Gx r (tD X.K Xw δa) (tD X.K Xw δb) σ H Q:=fun σ H Q ⟨F,ρ,s,w⟩=>by
 refine⟨F,ρ,s,WP.mono (WP.bind w) fun v H1 ⟨F1,d,e1,q1,w1⟩=>?_⟩
 refine⟨F1,ρ,s.ext e1,WP.mono (WP.bind w1) fun u H2 ⟨F2,d',e2,q2,w2⟩=>?_⟩
 exact hg Xw F2 H2 v u d d' Q e2.fh (Den.mono e2.ff q1) q2 w2
theorem h7{op:Operator}{r:R2}{g:D→D→M D}(ho:OpR X (binaryOp op) r)(hg:qF X.K r g)(ha:PD X Xw a δa)(hb:PD X Xw b δb):PD X Xw (.BinOp a op b pos) (d2 g δa δb):=
 PE.weak (F8 ho ha hb) (qz hg)
theorem mr{op:CmpOp}{r:R2}{g:D→D→M D}(ho:OpR X (compareOp op) r)(hg:qF X.K r g)(ha:PD X Xw a δa)(hb:PD X Xw b δb)(hm:behindInMarks op b=false:=by first | exact yJ _ | rfl):PD X Xw (.Compare a [op] [b] pos) (d2 g δa δb):=
 PE.weak (Bd ho ha hb hm) (qz hg)
theorem g0{op:CmpOp}{r:R2}{g:D→D→M D}(ho:OpR X (compareOp op) r)(hg:qF X.K r g)(ha:PD X Xw a δa)(hb:PD X Xw b δb)(hm:behindInMarks op b=false:=by first | exact yJ _ | rfl):o8 X Xw (.Compare a [op] [b] pos) (c0 (d2 g δa δb)):=
 PT.weak (Br ho ha hb hm) fun σ H Q ⟨F,ρ,s,w⟩=>by
  refine qz hg σ H _ ⟨F,ρ,s,WP.mono (WPB.bind w) fun v H1 ⟨F1,d,e1,q1,w1⟩=>?_⟩
  cases d with
  |bl k=>exact⟨k,q1,w1 _ _ (Ext.refl e1.fh)⟩
  |_=>exact w1.elim
theorem vo{r:R2}{g:D→D→M D}(hr:EH X r)(hg:qF X.K r g)(ha:PD X Xw a δa)(hb:PD X Xw b δb)(hs:gN b:=by intro _ _;rfl):PD X Xw (.Subscript a b pos) (d2 g δa δb):=
 PE.weak (F7 hr ha hb hs) (qz hg)
theorem ae:k7 X Xw [] aN:=PA.weak p6 fun σ H Q ⟨F,ρ,s,w⟩=>w [] H F (Ext.refl s.fh) rfl
theorem aa{es:List Expr}{δs:DA}(ha:PD X Xw a δa)(hr:k7 X Xw es δs)(hs:starEach (a::es) X.env=(false,eval a X.env)::starEach es X.env:=by rfl):k7 X Xw (a::es) (aC δa δs):=
 PA.weak (p5 ha hr hs) fun σ H Q ⟨F,ρ,s,w⟩=>by
  refine⟨F,ρ,s,WP.mono (WPL.bind w) fun v H1 ⟨F1,d,e1,q1,w1⟩=>?_⟩
  refine⟨F1,ρ,s.ext e1,WPL.mono (WPL.bindL w1) fun vs H2 ⟨F2,ds,e2,q2,w2⟩=>?_⟩
  exact w2 _ _ _ (Ext.refl e2.fh) (.cons (Den.mono e2.ff q1) q2)
def c9(ds:List D):M D:=if ds.length≤lim then M.ret (.tup ds) else M.stuck
def cO(ds:List D):M D:=if ds.length≤lim then M.ret (.lst ds) else M.stuck
theorem tP{ds:List D}{f:List D→D}{Q:VK}{F H:Hp}(w:WP X.K Xw F H (if ds.length≤lim then M.ret (f ds) else M.stuck) Q):ds.length≤lim∧WP X.K Xw F H (M.ret (f ds)) Q:=by
 split at w
 ·rename_i h;exact⟨h,w⟩
 ·exact w.elim
theorem fM{x1}{es:List Expr}{δs:DA}(h:k7 X Xw es δs):PD X Xw (.Tuple es x1 pos) (dA c9 δs):=PE.weak (DY h) fun σ H Q ⟨F,ρ,s,w⟩=>by
 refine⟨F,ρ,s,WPL.mono (WP.bindL w) fun vs H1 ⟨F1,ds,e1,q1,w1⟩=>?_⟩
 obtain⟨hl,w1⟩:=tP (X:=X) w1
 have hv:=q1.len
 refine⟨by have:=cf;omega,fun p hp=>WP.fin w1 (Ext.lay e1.fh hp) ⟨p,vs,rfl,aF,DenL.mono (Ext.lay e1.fh hp).ff q1,hl⟩⟩
theorem gr{es:List Expr}{δs:DA}(h:k7 X Xw es δs):PD X Xw (.List es pos) (dA cO δs):=PE.weak (zc h) fun σ H Q ⟨F,ρ,s,w⟩=>by
 refine⟨F,ρ,s,WPL.mono (WP.bindL w) fun vs H1 ⟨F1,ds,e1,q1,w1⟩=>?_⟩
 obtain⟨hl,w1⟩:=tP (X:=X) w1
 have hv:=q1.len
 refine⟨by have:=cf;omega,fun p hp=>WP.fin w1 (Ext.lay e1.fh hp) ⟨p,vs,rfl,aF,DenL.mono (Ext.lay e1.fh hp).ff q1,hl⟩⟩
end
def ItD(K:W.Frag)(F:Hp)(J:It)(ds:List D):Prop:=∀(F' H':Hp) (i:Nat),Same F F'→Same F' H'→
 (∀d,ds[i]? =some d→J.go i H'∧∀x H'',J.yld i H' x H''→∃F'',Ext F' H' F'' H''∧Den K F'' d x)∧(ds.length≤i→J.stop i H')
theorem ItD.mono{K:W.Frag}{F F1:Hp}{J:It}{ds:List D}(h:ItD K F J ds)(e:Same F F1):ItD K F1 J ds:=fun F' H' i s1 s2=>h F' H' i (e.trans s1) s2
def WPI(K:W.Frag)(Xw:Nat→Hp→Prop)(F H:Hp)(m:M (List D))(R:It→Hp→Prop):Prop:=
 match m with
 |none=>False
 |some (.ok ds)=>∀J H' F',Ext F H F' H'→ItD K F' J ds→R J H'
 |some (.ex n)=>∀F' H',Ext F H F' H'→Xw n H'
def LQ(K:W.Frag)(Xw:Nat→Hp→Prop)(δ:DA):TI:=fun σ H R=>∃F ρ,StE K F H σ ρ∧WPI K Xw F H (δ ρ) R
def uH(X:Cx)(Xw:Nat→Hp→Prop)(tg iter:Expr)(δ:DA):Prop:=PI X tg iter (LQ X.K Xw δ)
theorem PI.weak{X:Cx}{tg e:Expr}{t t':TI}(h:PI X tg e t)(k:∀σ H Q,t' σ H Q→t σ H Q):PI X tg e t':=fun pins s σ H Q I w=>h pins s σ H Q I (k σ H Q w)
theorem WPI.bind{K:W.Frag}{Xw:Nat→Hp→Prop}{F H:Hp}{m:M D}{k:D→M (List D)}{R:It→Hp→Prop}(h:WPI K Xw F H (m>>=k) R):
 WP K Xw F H m fun v H1=>∃F1 d,Ext F H F1 H1∧Den K F1 d v∧WPI K Xw F1 H1 (k d) R:=by
 match m,h with
 |none,h=>exact h
 |some (.ok d),h=>
  refine fun v H2 F2 e2 q=>⟨F2,d,e2,q,?_⟩
  have h:WPI K Xw F H (k d) R:=h
  show WPI K Xw F2 H2 (k d) R
  match k d,h with
  |none,h=>exact h
  |some (.ok ds),h=>exact fun J H3 F3 e3 q3=>h J H3 F3 (e2.trans e3) q3
  |some (.ex n),h=>exact fun F3 H3 e3=>h F3 H3 (e2.trans e3)
 |some (.ex n),h=>exact h
theorem WPI.bindL{K:W.Frag}{Xw:Nat→Hp→Prop}{F H:Hp}{m:M (List D)}{k:List D→M (List D)}{R:It→Hp→Prop}(h:WPI K Xw F H (m>>=k) R):
 WPL K Xw F H m fun v H1=>∃F1 d,Ext F H F1 H1∧DenL K F1 d v∧WPI K Xw F1 H1 (k d) R:=by
 match m,h with
 |none,h=>exact h
 |some (.ok d),h=>
  refine fun v H2 F2 e2 q=>⟨F2,d,e2,q,?_⟩
  have h:WPI K Xw F H (k d) R:=h
  show WPI K Xw F2 H2 (k d) R
  match k d,h with
  |none,h=>exact h
  |some (.ok ds),h=>exact fun J H3 F3 e3 q3=>h J H3 F3 (e2.trans e3) q3
  |some (.ex n),h=>exact fun F3 H3 e3=>h F3 H3 (e2.trans e3)
 |some (.ex n),h=>exact h
def lstM:D→M (List D)
 | .lst ds=>M.ret ds
 |_=>M.stuck
def Je:D→M (List D)
 | .tup ds=>M.ret ds
 |_=>M.stuck
def ck(a:DE):DA:=fun ρ=>a ρ>>=lstM
def qR(a:DE):DA:=fun ρ=>a ρ>>=Je
theorem yw{K:W.Frag}{F:Hp}{a:Addr}{vs:List V}{ds:List D}(h:SqL K F a vs)(hd:DenL K F ds vs):ItD K F (G9 K a) ds:=fun F' H' i s1 s2=>by
 have hs:=Same.seq s2 (Same.seq s1 h)
 refine⟨fun d e=>?_,fun hl=>⟨vs,hs,by rw[←hd.len];exact hl⟩⟩
 obtain⟨v,e1,q⟩:=hd.get e
 refine⟨⟨vs,v,hs,e1⟩,fun x H'' y=>?_⟩
 obtain⟨e2,y⟩:=y
 subst e2
 have:=y vs hs
 rw[e1] at this
 cases this
 exact⟨F',Ext.refl s2,Den.mono s1 q⟩
theorem AI{K:W.Frag}{F:Hp}{a:Addr}{vs:List V}{ds:List D}(h:SqT K F a vs)(hd:DenL K F ds vs):ItD K F (G_ K a) ds:=fun F' H' i s1 s2=>by
 have hs:=Same.tup s2 (Same.tup s1 h)
 refine⟨fun d e=>?_,fun hl=>⟨vs,hs,by rw[←hd.len];exact hl⟩⟩
 obtain⟨v,e1,q⟩:=hd.get e
 refine⟨⟨vs,v,hs,e1⟩,fun x H'' y=>?_⟩
 obtain⟨e2,y⟩:=y
 subst e2
 have:=y vs hs
 rw[e1] at this
 cases this
 exact⟨F',Ext.refl s2,Den.mono s1 q⟩
def fv(lo:Int)(n:Nat):List D:=(List.range n).map fun(i:Nat)=>D.int (lo+(i:Int))
theorem n4{K:W.Frag}{F:Hp}(lo:Int)(n:Nat):ItD K F (EG lo n) (fv lo n):=fun F' H' i s1 s2=>by
 refine⟨fun d e=>?_,fun hl=>show n≤i by simpa[fv] using hl⟩
 unfold fv at e
 rw[List.getElem?_map] at e
 have hi:i<n:=by
  by_cases hi:i<n
  ·exact hi
  ·rw[List.getElem?_eq_none (by simpa using hi)] at e;cases e
 rw[List.getElem?_range hi] at e
 cases e
 refine⟨hi,fun x H'' y=>?_⟩
 obtain⟨e2,y⟩:=y
 subst e2 y
 exact⟨F',Ext.refl s2,rfl⟩
section
variable{X:Cx}{Xw:Nat→Hp→Prop}{tg l:Expr}{δ:DE}{pos:Pos}
theorem bx(h:PD X Xw l δ):uH X Xw tg l (ck δ):=PI.weak (Bg h) fun σ H R ⟨F,ρ,s,w⟩=>by
 refine⟨F,ρ,s,WP.mono (WPI.bind w) fun v H1 ⟨F1,d,e1,q1,w1⟩=>?_⟩
 cases d with
 |lst ds=>
  obtain⟨a,vs,h1,h2,h3,h4⟩:=q1
  exact⟨a,h1,⟨vs,Same.seq e1.fh (SqL.of h2)⟩,w1 _ _ _ (Ext.refl e1.fh) (yw (SqL.of h2) h3)⟩
 |_=>exact w1.elim
theorem qa(h:PD X Xw l δ):uH X Xw tg l (qR δ):=PI.weak (D2 h) fun σ H R ⟨F,ρ,s,w⟩=>by
 refine⟨F,ρ,s,WP.mono (WPI.bind w) fun v H1 ⟨F1,d,e1,q1,w1⟩=>?_⟩
 cases d with
 |tup ds=>
  obtain⟨a,vs,h1,h2,h3,h4⟩:=q1
  exact⟨a,h1,⟨vs,Same.tup e1.fh (SqT.of h2)⟩,w1 _ _ _ (Ext.refl e1.fh) (AI (SqT.of h2) h3)⟩
 |_=>exact w1.elim
def ib:List D→M (List D)
 |[.int j]=>if -4096≤j∧j≤4096 then M.ret (fv 0 j.toNat) else M.stuck
 |_=>M.stuck
def oV:List D→M (List D)
 |[.int i, .int j]=>if (-4096≤i∧i≤4096)∧(-4096≤j∧j≤4096) then M.ret (fv i (j - i).toNat) else M.stuck
 |_=>M.stuck
theorem DenL.one{K:W.Frag}{F:Hp}{d:D}{vs:List V}(h:DenL K F [d] vs):∃v,vs=[v]∧Den K F d v:=by
 obtain⟨v,r,h1,h2,h3⟩:=h
 cases (show r=[] from h3)
 exact⟨v,h1,h2⟩
theorem DenL.two{K:W.Frag}{F:Hp}{d d':D}{vs:List V}(h:DenL K F [d,d'] vs):∃v v',vs=[v,v']∧Den K F d v∧Den K F d' v':=by
 obtain⟨v,r,h1,h2,h3⟩:=h
 obtain⟨v',h4,h5⟩:=h3.one
 subst h4
 exact⟨v,v',h1,h2,h5⟩
theorem ez{a:Expr}{δs:DA}{p:Pos}(hg:Gl X "range")(hm:X.mg "range"=none)(ha:k7 X Xw [a] δs)(hs:starEach [a] X.env=[(false,eval a X.env)]:=by rfl):uH X Xw tg (.Call (.Name "range" p) [a] [] pos) (fun ρ=>δs ρ>>=ib):=
 PI.weak (wR hg hm ha hs) fun σ H R ⟨F,ρ,s,w⟩=>by
  refine⟨F,ρ,s,WPL.mono (WPI.bindL w) fun vs H1 ⟨F1,ds,e1,q1,w1⟩=>?_⟩
  unfold ib at w1
  split at w1
  ·rename_i j
   obtain⟨v,h1,h2⟩:=q1.one
   cases (show v=_ from h2)
   split at w1
   ·exact⟨j,h1,by omega,by omega,w1 _ _ _ (Ext.refl e1.fh) (n4 0 _)⟩
   ·exact w1.elim
  ·exact w1.elim
theorem mv{a b:Expr}{δs:DA}{p:Pos}(hg:Gl X "range")(hm:X.mg "range"=none)(ha:k7 X Xw [a,b] δs)(hs:starEach [a,b] X.env=[(false,eval a X.env),(false,eval b X.env)]:=by rfl)
 (GV:starEach [b] X.env=[(false,eval b X.env)]:=by rfl):uH X Xw tg (.Call (.Name "range" p) [a,b] [] pos) (fun ρ=>δs ρ>>=oV):=
 PI.weak (wU hg hm ha hs GV) fun σ H R ⟨F,ρ,s,w⟩=>by
  refine⟨F,ρ,s,WPL.mono (WPI.bindL w) fun vs H1 ⟨F1,ds,e1,q1,w1⟩=>?_⟩
  unfold oV at w1
  split at w1
  ·rename_i i j
   obtain⟨v,v',h1,h2,h3⟩:=q1.two
   cases (show v=_ from h2)
   cases (show v'=_ from h3)
   split at w1
   ·exact⟨i,j,h1,⟨by omega,by omega,by omega,by omega⟩,w1 _ _ _ (Ext.refl e1.fh) (n4 i _)⟩
   ·exact w1.elim
  ·exact w1.elim
end
def cH(tg N:List Str):List Str:=N.map fun y=>if tg.contains y then y++(" ":Str) else y
def g_(X:Cx)(scope:Scope)(tn:List Str)(pins:List (Addr×Obj))(cl:List (Str×Addr))(C:Addr)(fp:List Addr)(s₂:Shared)(H:Hp):Cx:=
 {X with N:=tn++cH tn X.N,s₀:=s₂,H₀:=H,env:=compEnvC scope cl C X.env,outer:=X.stack,ex:=fp,fn:=fun _=>false,pn:=X.pn++pins,xe:=fun _ _=>False}
structure CompSc (X:Cx) (scope:Scope) (tn:List Str):Prop where
 kind:scope.kind= .function
 nocell:∀y∈scope.names,y.2≠ .cell
 names:∀y∈scope.names,y.2= .local→scope.names.lookup y.1=some .local
 frees:∀y∈scope.names,y.2= .free→X.env.kindOf y.1=some .cell∨X.env.kindOf y.1=some .free
 vis:∀p∈(cH tn X.N).zip X.N,scope.names.lookup p.1=none∨(p.1=p.2∧scope.names.lookup p.1=some .free)
theorem iq{env:Env}:∀(names:List (Str×NameKind)) (acc:List (Str×Addr)),(∀y∈names,y.2= .free→∃c,env.cells.lookup y.1=some c)→
 (∀x c,acc.lookup x=some c→env.cells.lookup x=some c)→
 ∃cl,(forIn names acc (fun (x:Str×NameKind) (r:List (Str×Addr))=>do
   let __x:=x
   if (__x.2==NameKind.free)=true then do let c←cellOf env __x.1;pure (ForInStep.yield ((__x.1,c)::r)) else pure (ForInStep.yield r)):Sem (List (Str×Addr)))=pure cl∧
  (∀x c,cl.lookup x=some c→env.cells.lookup x=some c)∧(∀x c,acc.lookup x=some c→∃c',cl.lookup x=some c')∧(∀x,names.lookup x=some .free→∃c,cl.lookup x=some c)
 |[],acc,_,h2=>⟨acc,rfl,h2,fun x c e=>⟨c,e⟩,fun x e=>by simp at e⟩
 |(n,k)::r,acc,h1,h2=>by
  by_cases hk:k= .free
  ·subst hk
   obtain⟨c,hc⟩:=h1 (n, .free) List.mem_cons_self rfl
   obtain⟨cl,e,a1,a2,a3⟩:=iq r ((n,c)::acc) (fun y hy=>h1 y (List.mem_cons_of_mem _ hy)) (fun x c' q=>by
    rw[List.lookup_cons] at q
    split at q
    ·rename_i hx
     cases q
     rw[show x=n from by simpa using hx];exact hc
    ·exact h2 x c' q)
   refine⟨cl,?_,a1,fun x c' q=>?_,fun x q=>?_⟩
   ·rw[List.forIn_cons]
    have:cellOf env n=pure c:=by unfold cellOf;rw[hc]
    simp only[beq_self_eq_true,if_true,this,pure_bind]
    exact e
   ·by_cases hx:x=n
    ·subst hx
     exact a2 x c (by simp[List.lookup_cons])
    ·exact a2 x c' (by rw[List.lookup_cons,show (x==n)=false from by simpa using hx];exact q)
   ·rw[List.lookup_cons] at q
    split at q
    ·rename_i hx
     exact a2 x c (by rw[List.lookup_cons,hx])
    ·exact a3 x q
  ·obtain⟨cl,e,a1,a2,a3⟩:=iq r acc (fun y hy=>h1 y (List.mem_cons_of_mem _ hy)) h2
   refine⟨cl,?_,a1,a2,fun x q=>?_⟩
   ·rw[List.forIn_cons]
    have:((k==NameKind.free)=true)=False:=by simpa using hk
    simp only[this,if_false,pure_bind]
    exact e
   ·rw[List.lookup_cons] at q
    split at q
    ·cases q;exact absurd rfl hk
    ·exact a3 x q
theorem lh{scope:Scope}{env:Env}(h:∀y∈scope.names,y.2= .free→∃c,env.cells.lookup y.1=some c):
 ∃cl,closureFor scope env=pure cl∧(∀x c,cl.lookup x=some c→env.cells.lookup x=some c)∧(∀x,scope.names.lookup x=some .free→∃c,cl.lookup x=some c):=by
 obtain⟨cl,e,a1,_,a3⟩:=iq (env:=env) scope.names [] h (fun x c q=>by simp at q)
 refine⟨cl,?_,a1,a3⟩
 unfold closureFor
 show (forIn scope.names [] _>>=fun r=>pure r)=_
 rw[bind_pure]
 exact e
def noex{α:Type}:M α→M α
 |some (.ok a)=>some (.ok a)
 |_=>none
def cY(f:D→M (Option D)):List D→M (List D)
 |[]=>M.ret []
 |d::ds=>f d>>=fun o=>cY f ds>>=fun r=>M.ret (match o with | some y=>y::r | none=>r)
def Kc(n:Nat):D→M (List D):=fun d=>match n,d with
 |0,d=>M.ret [d]
 |n, .tup ds=>if ds.length=n then M.ret ds else M.stuck
 |_,_=>M.stuck
def eJ(n:Nat)(δt:DT)(δe:DE)(ρ:a5):D→M (Option D):=fun d=>
 Kc n d>>=fun ts=>δt (ts.map (fun t=>some (Sl.fz t))++ρ)>>=fun b=>if b then δe (ts.map (fun t=>some (Sl.fz t))++ρ)>>=fun y=>M.ret (some y) else M.ret none
def aX(n:Nat)(δi:DA)(δt:DT)(δe:DE):DE:=fun ρ=>δi ρ>>=fun ds=>noex (cY (eJ n δt δe ρ) ds)>>=cO
def bW:DT:=fun _=>M.ret true
theorem eg(f:D→M (Option D))(d:D)(ds:List D):cY f (d::ds)=(f d>>=fun o=>cY f ds>>=fun r=>M.ret (match o with | some y=>y::r | none=>r)):=rfl
theorem s_{f:D→M (Option D)}{ds:List D}{i:Nat}{d:D}{ys R:List D}(hd:ds[i]? =some d)
 (h:cY f ds=(cY f (ds.drop i)>>=fun r=>M.ret (ys++r)))(hR:cY f ds=M.ret R):
 ∃o,f d=M.ret o∧cY f ds=(cY f (ds.drop (i+1))>>=fun r=>M.ret ((match o with | some y=>ys++[y] | none=>ys)++r)):=by
 have e:ds.drop i=d::ds.drop (i+1):=by
  obtain⟨hi,e⟩:=List.getElem?_eq_some_iff.mp hd
  rw[List.drop_eq_getElem_cons hi,e]
 rw[e,eg] at h
 have h':=h.symm.trans hR
 obtain⟨r,h1,h2⟩:=fB h'
 obtain⟨o,h3,h4⟩:=fB h1
 refine⟨o,h3,?_⟩
 obtain⟨r',h5,h6⟩:=fB h4
 rw[h5,hR]
 rw[←h2,←eP h6]
 show M.ret _=M.ret _
 cases o with
 |none=>rfl
 |some y=>simp
theorem vV{prog:Program}{w:World}{A:Around}{R:Result→Shared→Prop}{s:Shared}{elt target iter:Expr}{ifs:List Expr}{scope:Scope}{pos:Pos}{it acc:Value}{env:Env}(I:Nat→Shared→Prop)
 (turn:∀n s,I n s→wpAny (model prog w) A (pyNext it) (fun r s₁=>match r with
  |none=>R (.ok .next) s₁
  |some v=>wpAny (model prog w) A (letOwnedTupleGo target it v) (fun _ Ka=>wpAny (model prog w) A (assign target env v) (fun _ s₂=>
    wpAny (model prog w) A (forIn ifs true fun c r=>if r=true then do let ok←isTrue c env (eval c env);pure (ForInStep.yield ok) else pure (ForInStep.yield r)) (fun ok s₃=>
     if ok=true then wpAny (model prog w) A (eval elt env) (fun x s₄=>
      wpAny (model prog w) A (call (.builtin "list.append") [acc,x]) (fun _ s₅=>∃m,m<n∧I m s₅) (notedBy (model prog w) A env fun e s'=>R (.error e) s') s₄) (notedBy (model prog w) A env fun e s'=>R (.error e) s') s₃
     else∃m,m<n∧I m s₃) (notedBy (model prog w) A env fun e s'=>R (.error e) s') s₂) (notedBy (model prog w) A env fun e s'=>R (.error e) s') Ka) (notedBy (model prog w) A env fun e s'=>R (.error e) s') s₁) (notedBy (model prog w) A env fun e s'=>R (.error e) s') s)
 (n:Nat) (h:I n s):
 codeAny (model prog w) A (.compLoop (.ListComp elt [⟨target,iter,ifs,0⟩] scope pos) 0 it acc env) R s:=by
 refine codeAny_loop rfl I (fun n s hI=>?_) n h
 show wpAny _ A ((compTurn (.ListComp elt [⟨target,iter,ifs,0⟩] scope pos) 0 it acc env).onRaise (fun x=>do noteFrame x env;theTreesLotGoes x)) _ _ s
 refine wpAny_noted ?_
 rw[compTurn_list]
 refine wpAny_bind (wpAny_standAt (wpAny_bind (wpAny_mono (turn n s hI) (fun r s₁ h₁=>?_) fun _ _ h'=>h')))
 cases r with
 |none=>exact wpAny_pure h₁
 |some v=>
  refine wpAny_bind (wpAny_mono h₁ (fun _ Ka h₁=>?_) fun _ _ h'=>h')
  refine wpAny_bind (wpAny_mono h₁ (fun _ s₂ h₂=>wpAny_bind (wpAny_mono h₂ (fun ok s₃ h₃=>?_) fun _ _ h'=>h')) fun _ _ h'=>h')
  cases ok with
  |false=>exact wpAny_pure ⟨rfl,h₃⟩
  |true=>
   exact wpAny_bind (wpAny_bind (wpAny_mono h₃ (fun x s₄ h₄=>wpAny_bind (wpAny_mono h₄ (fun _ s₅ h₅=>wpAny_pure (wpAny_pure ⟨rfl,h₅⟩)) fun _ _ h'=>h')) fun _ _ h'=>h'))
def xt(X:Cx)(tg:Expr)(n:Nat)(σ:St):Prop:=∀(pins:List (Addr×Obj)) (s:Shared) (σ':St) (F H:Hp) (d:D) (ts:List D) (v:V) (u:Value),Inv X pins σ' H s→Same F H→σ'.drop (max n 1)=σ→RelV v u→Den X.K F d v→Kc n d=M.ret ts→
 wpAny (model X.prog X.w) X.A (assign tg X.env u) (fun _ s'=>∃vs,Inv X pins (vs.map some++σ) H s'∧DenL X.K F ts vs) X.xe s
def jr(X:Cx)(ifs:List Expr)(δt:DT):Prop:=∀(pins:List (Addr×Obj)) (s:Shared) (σ:St) (H:Hp) (Q:Bool→Hp→Prop),Inv X pins σ H s→IX X.K (fun _ _=>False) δt σ H Q→
 wpAny (model X.prog X.w) X.A (forIn ifs true fun c r=>if r=true then do let ok←isTrue c X.env (eval c X.env);pure (ForInStep.yield ok) else pure (ForInStep.yield r)) (TP X pins σ Q) X.xe s
theorem dg{X:Cx}:jr X [] bW:=fun pins s σ H Q I ⟨F,ρ,S,w⟩=>wpAny_tests_nil ⟨H,I,w H F (Ext.refl S.fh)⟩
theorem ji{X:Cx}{c:Expr}{δ:DT}(h:o8 X (fun _ _=>False) c δ):jr X [c] δ:=fun pins s σ H Q I w=>wpAny_tests_one (h pins s σ H Q I w)
theorem StE.cons{K:W.Frag}{F H:Hp}{σ:St}{ρ:a5}{ts:List D}{vs:List V}(s:StE K F H σ ρ)(h:DenL K F ts vs):StE K F H (vs.map some++σ) (ts.map (fun t=>some (Sl.fz t))++ρ):=by
 refine⟨s.fh,fun i sl e=>?_⟩
 have hl:=h.len
 by_cases hi:i<ts.length
 ·rw[List.getElem?_append_left (by simpa using hi),List.getElem?_map] at e
  cases q:ts[i]? with
  |none=>rw[q] at e;cases e
  |some t=>
   rw[q] at e
   cases e
   obtain⟨v,e1,e2⟩:=h.get q
   exact⟨v,by rw[List.getElem?_append_left (by simp;omega),List.getElem?_map,e1];rfl,e2⟩
 ·rw[List.getElem?_append_right (by simpa using hi)] at e
  obtain⟨v,e1,e2⟩:=s.den _ _ e
  refine⟨v,?_,e2⟩
  rw[List.getElem?_append_right (by simp;omega)]
  simpa[hl] using e1
theorem WPB.take{Xw:Nat→Hp→Prop}{F H:Hp}{b:Bool}:WPB Xw F H (M.ret b) fun b' H'=>b'=b∧∃F',Ext F H F' H':=fun H' F' e=>⟨rfl,F',e⟩
theorem WP.take{K:W.Frag}{Xw:Nat→Hp→Prop}{F H:Hp}{d:D}:WP K Xw F H (M.ret d) fun v H'=>∃F',Ext F H F' H'∧Den K F' d v:=fun v H' F' e q=>⟨F',e,q⟩
def jO(env:Env)(p:Str×NameKind):Str×NameKind:=if (p.2== .free&&env.scope.kind== .function&&env.kindOf p.1==some .cell) then(p.1, .cell) else(p.1,p.2)
theorem eZ(scope:Scope)(env:Env):(relabel scope env).names=scope.names.map (jO env):=rfl
theorem zv(env:Env)(p:Str×NameKind):(jO env p).1=p.1:=by unfold jO;split<;>rfl
theorem fI(env:Env)(x:Str):∀ns:List (Str×NameKind),(ns.map (jO env)).lookup x=(ns.lookup x).map fun k=>(jO env (x,k)).2
 |[]=>rfl
 |(m,k)::r=>by
  rw[List.map_cons,List.lookup_cons,List.lookup_cons]
  have e:jO env (m,k)=(m,(jO env (m,k)).2):=Prod.ext (zv env (m,k)) rfl
  rw[e]
  dsimp only
  by_cases hx:(x==m)=true
  ·have hm:x=m:=by simpa using hx
   subst hm
   rw[hx]
   rfl
  ·have hx:(x==m)=false:=by simpa using hx
   rw[hx]
   exact fI env x r
theorem qf{scope:Scope}{env:Env}{x:Str}(h:scope.names.lookup x=none):(relabel scope env).names.lookup x=none:=by
 rw[eZ,fI,h];rfl
theorem qe{scope:Scope}{env:Env}{x:Str}(hc:∀y∈scope.names,y.2≠ .cell)(h:(relabel scope env).names.lookup x=some .cell∨(relabel scope env).names.lookup x=some .free):scope.names.lookup x=some .free:=by
 rw[eZ,fI] at h
 cases q:scope.names.lookup x with
 |none=>rw[q] at h;rcases h with h | h<;>cases h
 |some k=>
  rw[q] at h
  have hk:k≠ .cell:=hc _ (PySem.mem_of_lookup q)
  have h:(jO env (x,k)).2= .cell∨(jO env (x,k)).2= .free:=by simpa using h
  by_cases hf:k= .free
  ·rw[hf]
  ·have:(jO env (x,k)).2=k:=by
    unfold jO
    rw[if_neg]
    simp[hf]
   rw[this] at h
   rcases h with h | h
   ·exact absurd h hk
   ·exact absurd h hf
theorem jP{scope:Scope}{env:Env}{x:Str}(h:scope.names.lookup x=some .free):¬(relabel scope env).names.lookup x=some .local:=by
 rw[eZ,fI,h]
 intro z
 have z:(jO env (x, .free)).2= .local:=by simpa using z
 unfold jO at z
 split at z<;>cases z
structure BlockEnd (X:Cx) (pins:List (Addr×Obj)) (C:Addr) (H':Hp) (s1:Shared):Prop where
 ns:∃m,s1.heap.Ns C m
 free:H' C=none
 nl:C≠X.env.locals
 nw:X.s₀.heap.objs.size≤C
 nc:∀x c,X.env.cells.lookup x=some c→c≠C
 np:∀p∈X.pn++pins,p.1≠C
theorem qO{X:Cx}{Xw:Nat→Hp→Prop}{elt iter tg:Expr}{ifs:List Expr}{scope:Scope}{pos:Pos}{tn:List Str}{n:Nat}{δi:DA}{δt:DT}{δe:DE}{cl:List (Str×Addr)}{pins:List (Addr×Obj)}{s:Shared}{σ:St}{H F:Hp}{ρ:a5}{Q:VK}{RR:Value→Addr→Result→Shared→Prop}
 (sc:CompSc X scope tn)(hn:tn.length=max n 1)(hc:X.calm=true)(hi:uH X Xw tg iter δi)
 (hg:∀pins cl C fp s₂ H σ,xt (g_ X scope tn pins cl C fp s₂ H) tg n σ)
 (ht:∀pins cl C fp s₂ H,jr (g_ X scope tn pins cl C fp s₂ H) ifs δt)
 (he:∀pins cl C fp s₂ H,PD (g_ X scope tn pins cl C fp s₂ H) (fun _ _=>False) elt δe)
 (I:Inv X pins σ H s)(S:StE X.K F H σ ρ)(w:WP X.K Xw F H (aX n δi δt δe ρ) Q)
 (xI:∀x c,cl.lookup x=some c→X.env.cells.lookup x=some c)(Es:∀x,scope.names.lookup x=some .free→∃c,cl.lookup x=some c)
 (Kz:∀(s1:Shared) (C D:Addr) (H':Hp),Inv X pins σ H' s1→Q (.ref D) H'→BlockEnd X pins C H' s1→RR (.ref D) C (.ok .next) s1):
 wpAny (model X.prog X.w) X.A (eval iter X.env) (fun x s₁=>wpAny (model X.prog X.w) X.A (pyIter x) (fun it s₂=>wpAny (model X.prog X.w) X.A (newList []) (fun acc s₃=>
  wpAny (model X.prog X.w) X.A (newFunctionEnv scope X.env.globals cl [] X.env.qual none .none (some X.env)) (fun ER s₄=>
   codeAny (model X.prog X.w) X.A (.compStart (.ListComp elt [⟨tg,iter,ifs,0⟩] scope pos) 0 it acc {ER with scope:=relabel scope X.env}) (RR acc ER.locals) s₄) X.xe s₃) X.xe s₂) X.xe s₁) X.xe s:=by
 refine bY (hi pins s σ H (fun J H2=>∃F2 ds,Ext F H F2 H2∧ItD X.K F2 J ds∧WP X.K Xw F2 H2 (noex (cY (eJ n δt δe ρ) ds)>>=cO) Q) I ⟨F,ρ,S,?_⟩) fun xv s₁ h₁=>bY h₁ fun it s₂ h₂=>?_
 ·unfold aX at w
  rcases(δi ρ).cs with hq | ⟨m,hq⟩ | ⟨ds,hq⟩
  ·rw[hq] at w;exact w.elim
  ·rw[hq] at w⊢;exact w
  ·rw[hq] at w⊢;exact fun J H' F' e q=>⟨F',ds,e,q,WP.ext e w⟩
 obtain⟨ia,fp,Kd,J,H2,rfl,I2,T,uw,f2,F2,ds,e2,J1,w2⟩:=h₂
 obtain⟨R,hR,JB,w2⟩:∃R,cY (eJ n δt δe ρ) ds=M.ret R∧R.length≤lim∧WP X.K Xw F2 H2 (M.ret (.lst R)) Q:=by
  rcases(cY (eJ n δt δe ρ) ds).cs with hq | ⟨m,hq⟩ | ⟨R,hq⟩
  ·rw[hq] at w2;exact w2.elim
  ·rw[hq] at w2;exact w2.elim
  ·rw[hq] at w2
   obtain⟨h1,h2⟩:=tP (X:=X) (f:=D.lst) (show WP X.K Xw F2 H2 (cO R) Q from w2)
   exact⟨R,hq,h1,h2⟩
 refine wpAny_newObj_type (wpAny_newFunctionEnv sc.nocell (by intro y hy;simp at hy) (fun h₁ CY Ax=>?_) sc.kind)
 dsimp only at CY Ax⊢
 generalize Ho:s₂.heap.push {cls:= .type "list",dict:=none,data:= .seq ([]:List Value).toArray}=HL at CY Ax⊢
 have hC:HL.objs.size=s₂.heap.objs.size+1:=by rw[←Ho,Heap.size_push]
 have v5:s₂.heap.objs.size<HL.objs.size:=by rw[hC];exact Nat.lt_succ_self _
 have old:∀b o,s₂.heap.get? b=some o→h₁.get? b=some o:=fun b o e=>Ax.extBut b o (Nat.ne_of_lt (Nat.lt_trans (Heap.lt_size e) v5)) (Heap.get?_push_of_some _ (Ho▸Heap.get?_push_of_some _ e))
 have ye:h₁.get? s₂.heap.objs.size=some {cls:= .type "list",data:= .seq ([]:List Value).toArray}:=Ax.extBut _ _ (Nat.ne_of_lt v5) (Heap.get?_push_of_some _ (Ho▸Heap.get?_push_size _ rfl))
 have nD:H2 s₂.heap.objs.size=none:=I2.hok.fresh (Nat.le_refl _)
 have nC:H2 HL.objs.size=none:=I2.hok.fresh (Nat.le_of_lt v5)
 have gC:s₂.heap.get? HL.objs.size=none:=Heap.get?_none_of_le (Nat.le_of_lt v5)
 have fl:∀b∈fp,b<s₂.heap.objs.size:=fun b hb=>by
  obtain⟨o,e,_⟩:=T.obj 0 _ uw b hb
  exact Heap.lt_size e
 generalize rf:g_ X scope tn pins cl HL.objs.size fp s₂ H2=X'
 have J8:X'.Ok:=by
  subst rf
  refine⟨I2.ok.mod,sc.kind,I2.ok.glob,I2.ok.blt,Nat.le_of_lt v5,fun x y c h1 h2=>I2.ok.inj x y c (xI _ _ h1) (xI _ _ h2),fun x hx=>?_,fun _ _ h=>(by cases h),I2.ok.hd,I2.ok.frames, .inl rfl,
   fun b hb=>⟨Nat.ne_of_lt (Nat.lt_trans (fl b hb) v5),fun x c h=>(f2 b hb).2.2.2.2.1 x c (xI _ _ h)⟩,I2.bs,Nat.le_trans I2.ok.bsz I2.sz,fun b o e hb=>?_,fun b hb z=>?_,I2.stack,I2.stkFree⟩
  ·have hx:(relabel scope X.env).names.lookup x=some .cell∨(relabel scope X.env).names.lookup x=some .free:=hx
   exact Es x (qe sc.nocell hx)
  ·rcases(f2 b hb).2.2.2.1 with z | z
   ·exact I2.ok.noex b o e z
   ·exact absurd (Nat.lt_of_lt_of_le (Heap.lt_size (I2.ok.bs b o e).1) z) (Nat.lt_irrefl _)
  ·rcases List.mem_cons.mp (I2.stkSub b z) with q | q
   ·exact(f2 b hb).2.1 q
   ·exact(f2 b hb).2.2.1 q
 have Iz:∀b o,H2 b=some o→b≠s₂.heap.objs.size:=fun b o e=>aV e nD
 have CI:∀{H':Hp},(∀b∈fp,H' b=none)→∀b∈fp,mY X' [] H' b:=fun Lk b hb=>by
  subst rf
  refine⟨Lk b hb,Nat.ne_of_lt (Nat.lt_trans (fl b hb) v5),fun z=>J8.exfs b hb z, .inl hb,fun x c h=>(f2 b hb).2.2.2.2.1 x c (xI _ _ h),fun p hp=>?_⟩
  rw[List.append_nil] at hp
  exact(f2 b hb).2.2.2.2.2 p hp
 have I0:Inv X' [] (List.replicate (max n 1) none++σ) (upd H2 s₂.heap.objs.size (.lst [])) {s₂ with heap:=h₁,toks:=s₂.toks+([]:List (Str×Value)).length}:=by
  subst rf
  have HV:HOk X.prog X.w (upd H2 s₂.heap.objs.size (.lst [])) h₁:=I2.hok.laid old (Nat.le_refl _) ⟨Nat.zero_le _,[],_, .nil,ye⟩
  refine⟨J8,rfl,I2.bare,Un.laid old (Nat.le_refl _) nD,⟨_,CY,fun i x v h1 h2 h3=>?_⟩,fun x c h=>?_,?_,fun x c h=>?_,fun p hp=>?_,HV,?_⟩
  ·by_cases hi:i<max n 1
   ·rw[List.getElem?_append_left (by simpa using hi),List.getElem?_replicate,if_pos hi] at h2
    cases h2
   ·have HD:tn.length≤i:=by omega
    have h1:(tn++cH tn X.N)[i]? =some x:=h1
    rw[List.getElem?_append_right HD] at h1
    rw[List.getElem?_append_right (by simpa using hi),List.length_replicate,←hn] at h2
    have hN:∃y,X.N[i - tn.length]? =some y∧(x,y)∈(cH tn X.N).zip X.N:=by
     have fX:=(List.getElem?_eq_some_iff.mp h1).1
     have Fl:i - tn.length<X.N.length:=by simpa[cH] using fX
     refine⟨X.N[i - tn.length],List.getElem?_eq_getElem Fl,?_⟩
     refine List.mem_iff_getElem?.mpr ⟨i - tn.length,?_⟩
     rw[List.getElem?_zip_eq_some]
     exact⟨h1,List.getElem?_eq_getElem Fl⟩
    obtain⟨y,hy,hm⟩:=hN
    have hV:(relabel scope X.env).names.lookup x=some .local∨(relabel scope X.env).names.lookup x=some .cell∨(relabel scope X.env).names.lookup x=some .free:=h3
    rcases sc.vis _ hm with v9 | ⟨Ih,B3⟩
    ·have v9:scope.names.lookup x=none:=v9
     have:(relabel scope X.env).names.lookup x=none:=qf v9
     rw[this] at hV
     rcases hV with z | z | z<;>cases z
    ·have Ih:x=y:=Ih
     subst Ih
     have B3:scope.names.lookup x=some .free:=B3
     have hk:=sc.frees (x, .free) (PySem.mem_of_lookup B3) rfl
     obtain⟨m,Au,z9⟩:=I2.loc
     obtain⟨u,ru,lk⟩:=z9 _ x v hy h2 (by rcases hk with z | z;exact .inr (.inl z);exact .inr (.inr z))
     refine⟨u,ru, .inr ⟨?_,?_⟩⟩
     ·rcases hV with z | z | z
      ·exact absurd z (jP B3)
      ·exact .inl z
      ·exact .inr z
     ·rcases lk with⟨z,_⟩ | ⟨_,c,KL,CN⟩
      ·rcases hk with q | q
       ·rw[show X.env.kindOf x=some .local from z] at q;cases q
       ·rw[show X.env.kindOf x=some .local from z] at q;cases q
      ·obtain⟨c',BZ⟩:=Es x B3
       have:=xI _ _ BZ
       rw[KL] at this
       cases this
       obtain⟨o,ho,hd⟩:=CN
       exact⟨c,BZ,o,old _ _ ho,hd⟩
  ·obtain⟨v,o,ho,hd⟩:=I2.cell x c (xI _ _ h)
   exact⟨v,o,old _ _ ho,hd⟩
  ·show upd H2 s₂.heap.objs.size (.lst []) HL.objs.size=none
   rw[av (Nat.ne_of_gt v5)]
   exact nC
  ·have Fc:=xI _ _ h
   obtain⟨v,q⟩:=I2.cell x c Fc
   rw[av (Nat.ne_of_lt q.lt)]
   exact I2.freeC x c Fc
  ·rw[List.append_nil] at hp
   obtain⟨e,nn,ne,nf,d⟩:=I2.pin p hp
   have fX:=Heap.lt_size e
   refine⟨old _ _ e,by rw[av (Nat.ne_of_lt fX)];exact nn,Nat.ne_of_lt (Nat.lt_trans fX v5),fun z=>?_,d⟩
   rcases List.mem_cons.mp (I2.stkSub p.1 z) with q | q
   ·exact ne q
   ·exact nf q
  ·show (List.replicate (max n 1) none++σ).length=(tn++cH tn X.N).length
   rw[List.length_append,List.length_append,List.length_replicate,hn,show (cH tn X.N).length=X.N.length from by simp[cH],I2.len]
 have loop:∀s₃:Shared,s₃={s₂ with heap:=h₁,toks:=s₂.toks+([]:List (Str×Value)).length}→
  codeAny (model X.prog X.w) X.A (.compLoop (.ListComp elt [⟨tg,iter,ifs,0⟩] scope pos) 0 (.ref ia) (.ref s₂.heap.objs.size) (compEnvC scope cl HL.objs.size X.env))
   (RR (.ref s₂.heap.objs.size) HL.objs.size) s₃:=by
  intro s₃ Lx
  have xU:X'.env=compEnvC scope cl HL.objs.size X.env:=by subst rf;rfl
  have hA:X'.A=X.A:=by subst rf;rfl
  have hP:X'.prog=X.prog:=by subst rf;rfl
  have hw:X'.w=X.w:=by subst rf;rfl
  have hK:X'.K=X.K:=by subst rf;rfl
  have LF:X'.xe=fun _ _=>False:=by subst rf;rfl
  have B0:X'.calm=true:=by subst rf;exact hc
  have KR:X'.fs=kS X.stack:=by subst rf;rfl
  have hex:X'.ex=fp:=by subst rf;rfl
  have Kx:X'.H₀=H2:=by subst rf;rfl
  have JU:X'.s₀=s₂:=by subst rf;rfl
  have pass:∀{α:Type}{t:Sem α}{P:α→Shared→Prop}{E':Value→Shared→Prop}{s:Shared},wpAny (model X'.prog X'.w) X'.A t P X'.xe s→wpAny (model X.prog X.w) X.A t P E' s:=fun {α t P E' s} h=>by
   rw[hP,hw,hA,LF] at h
   exact wpAny_mono h (fun _ _ q=>q) fun _ _ q=>q.elim
  refine vV (fun m s'=>∃(i:Nat) (F' H':Hp) (vs:List V) (ys:List D) (σt:St),m=ds.length - i∧i≤ds.length∧σt.length=max n 1∧Inv X' [] (σt++σ) H' s'∧Kd i s'.heap∧(∀b∈fp,H' b=none)∧Ext F2 H2 F' H'∧
   H' s₂.heap.objs.size=some (.lst vs)∧F' s₂.heap.objs.size=none∧DenL X.K F' ys vs∧cY (eJ n δt δe ρ) ds=(cY (eJ n δt δe ρ) (ds.drop i)>>=fun r=>M.ret (ys++r))) ?_ ds.length ?_
  ·rintro m s' ⟨i,F',H',vs,ys,σt,rfl,HF,LI,I',mM,Jt,tq,hD,fD,GY,heq⟩
   by_cases fX:i<ds.length
   ·
    obtain⟨d,hd⟩:∃d,ds[i]? =some d:=⟨_,List.getElem?_eq_getElem fX⟩
    obtain⟨HC,C5⟩:=(J1 F' H' i tq.ff tq.fh).1 d hd
    obtain⟨o,ho,Fg⟩:=s_ hd heq hR
    have Ii:ys.length≤lim:=by
     rw[heq] at hR
     obtain⟨r,_,hr⟩:=fB hR
     rw[←eP hr,List.length_append] at JB
     omega
    obtain⟨ts,LA,ho⟩:=fB ho
    refine pass ?_
    rw[hP,hw]
    refine bY (T.item X' hP hw hK B0 i [] s' (σt++σ) H' X'.xe I' (CI Jt) mM HC) ?_
    rintro r s1 ⟨u,rfl,h1⟩
    refine pass ?_
    rw[hP,hw]
    refine bY h1 ?_
    rintro _ s2 ⟨x,H3,I3,rx,y3,EC,GJ⟩
    obtain⟨F3,z7,q3⟩:=C5 x H3 y3
    have Jy:H3 s₂.heap.objs.size=some (.lst vs):=z7.hh _ _ hD
    have Kq:F3 s₂.heap.objs.size=none:=by rw[z7.old hD (fun _ z=>nomatch z)];exact fD
    have I3':=I3.pinned (CI GJ) (T.obj _ _ EC)
    have u4:∀{σ7:St}{H7:Hp}{s7:Shared},Inv X' ([]++mx fp s2.heap) σ7 H7 s7→Kd (i+1) s7.heap∧∀b∈fp,H7 b=none:=fun {σ7 H7 s7} I7=>
     ⟨T.keep _ _ _ EC fun b hb o e=>(I7.pin (b,o) (List.mem_append_right _ (List.mem_append_right _ (fJ hb e)))).1,fun b hb=>by
      obtain⟨o,e,_⟩:=T.obj _ _ EC b hb
      exact(I7.pin (b,o) (List.mem_append_right _ (List.mem_append_right _ (fJ hb e)))).2.1⟩
    have KU:xt X' tg n σ:=by subst rf;exact hg _ _ _ _ _ _ _
    have Ly:jr X' ifs δt:=by subst rf;exact ht _ _ _ _ _ _
    have KO:PD X' (fun _ _=>False) elt δe:=by subst rf;exact he _ _ _ _ _ _
    refine pass ?_
    rw[←xU]
    refine bY (KU _ s2 (σt++σ) F3 H3 d ts x u I3' z7.fh (by rw[←LI];simp) rx (by rw[hK];exact q3) LA) ?_
    rintro _ s4 ⟨vt,I4,dt⟩
    rw[hK] at dt
    have S4:StE X.K F3 H3 (vt.map some++σ) (ts.map (fun t=>some (Sl.fz t))++ρ):=StE.cons ((S.ext e2).ext (tq.trans z7)) dt
    obtain⟨b,hb,ho⟩:=fB ho
    refine pass ?_
    try rw[←xU]
    refine bY (Ly _ s4 _ H3 (fun b' H5=>b'=b∧∃F5,Ext F3 H3 F5 H5) I4 ⟨F3,_,by rw[hK];exact S4,by rw[hb];exact WPB.take⟩) ?_
    rintro b' s5 ⟨H5,I5,rfl,F5,CF⟩
    have Hn:H5 s₂.heap.objs.size=some (.lst vs):=CF.hh _ _ Jy
    have Jq:F5 s₂.heap.objs.size=none:=by rw[CF.old Jy (fun _ z=>nomatch z)];exact Kq
    cases b' with
    |false=>
     rw[if_neg Bool.false_ne_true] at ho⊢
     obtain rfl:=eP ho
     refine⟨ds.length - (i+1),by omega,i+1,F5,H5,vs,ys,vt.map some,rfl,fX,?_,I5.unpinned,(u4 I5).1,(u4 I5).2,tq.trans (z7.trans CF),Hn,Jq,DenL.mono (z7.trans CF).ff GY,Fg⟩
     have h1:=I5.len
     have h2:=I3.len
     rw[List.length_append] at h1 h2
     omega
    |true=>
     rw[if_pos rfl] at ho⊢
     obtain⟨yv,hy,ho⟩:=fB ho
     obtain rfl:=eP ho
     refine pass ?_
     try rw[←xU]
     refine bY (KO _ s5 _ H5 (fun v H6=>∃F6,Ext F5 H5 F6 H6∧Den X.K F6 yv v) I5 ⟨F5,_,by rw[hK];exact S4.ext CF,by rw[hy,hK];exact WP.take⟩) ?_
     rintro xv s6 ⟨v,H6,I6,rv,F6,GI,qv⟩
     have Kw:H6 s₂.heap.objs.size=some (.lst vs):=GI.hh _ _ Hn
     have Jr:F6 s₂.heap.objs.size=none:=by rw[GI.old Hn (fun _ z=>nomatch z)];exact Jq
     have LC:vs.length<sizeLine:=by
      have:=GY.len
      have:=cf
      omega
     refine pass ?_
     refine bY (oz _ s6 _ H6 (.ref s₂.heap.objs.size) [v] (.ref s₂.heap.objs.size) [xv] (fun _ H7=>H7=upd H6 s₂.heap.objs.size (.lst (vs++[v]))) I6 rfl (.cons rv .nil) ⟨_,vs,v,rfl,rfl,Kw,LC,rfl⟩) ?_
     rintro _ s7 ⟨_,H7,I7,_,rfl⟩
     have Kp:Ext F2 H2 F6 (upd H6 s₂.heap.objs.size (.lst (vs++[v]))):=by
      have e:=tq.trans (z7.trans (CF.trans GI))
      refine⟨fun b u q=>?_,e.ff,fun b u q=>?_,e.new⟩
      ·rw[av (Iz b u q)];exact e.hh b u q
      ·rw[av (fun z=>by rw[z,Jr] at q;cases q)];exact e.fh b u q
     refine⟨ds.length - (i+1),by omega,i+1,F6,_,vs++[v],ys++[yv],vt.map some,rfl,fX,?_,I7.unpinned,(u4 I7).1,(u4 I7).2,Kp,aF,Jr,
      DenL.append (DenL.mono (z7.trans (CF.trans GI)).ff GY) (.cons qv .nil),Fg⟩
     have h1:=I5.len
     have h2:=I3.len
     rw[List.length_append] at h1 h2
     omega
   ·
    have hi:i=ds.length:=by omega
    subst hi
    rw[List.drop_length] at heq
    have KA:R=ys:=by
     rw[heq] at hR
     have hR:M.ret (ys++[])=M.ret R:=hR
     rw[←eP hR,List.append_nil]
    subst KA
    refine pass ?_
    rw[hP,hw]
    refine bY (T.done X' hP hw hK B0 ds.length [] s' (σt++σ) H' X'.xe I' (CI Jt) mM ((J1 F' H' ds.length tq.ff tq.fh).2 (Nat.le_refl _))) ?_
    rintro r s1 ⟨rfl,I1⟩
    obtain⟨m,hm,_⟩:=I1.loc
    rw[xU] at hm
    have Kv:H' HL.objs.size=none:=by
     have:=I1.free
     rw[xU] at this
     exact this
    have u:=I1.base
    rw[KR,hex,Kx,JU] at u
    have yn:s1.os=s₂.os:=by have:=I1.os;rw[JU] at this;exact this
    have Fh:=I1.hok
    rw[hP,hw] at Fh
    refine Kz s1 HL.objs.size s₂.heap.objs.size H' (I2.call' (s':=s1) (ch:=fp) yn u Fh I1.bare (fun b hb=>⟨(f2 b hb).2.2.2.1,(f2 b hb).2.1,(f2 b hb).2.2.2.2.1,(f2 b hb).2.2.2.2.2⟩)) ?_
     ⟨⟨m,hm⟩,Kv,Nat.ne_of_gt (Nat.lt_trans I2.lt v5),Nat.le_trans I2.sz (Nat.le_of_lt v5),fun x c q z=>?_,fun p hp z=>?_⟩
    rotate_left
    ·obtain⟨v,q'⟩:=I2.cell x c q
     exact absurd (Nat.lt_trans q'.lt v5) (by rw[z];exact Nat.lt_irrefl _)
    ·exact absurd (Nat.lt_trans (Heap.lt_size (I2.pin p hp).1) v5) (by rw[z];exact Nat.lt_irrefl _)
    refine WP.fin w2 (F':=upd F' s₂.heap.objs.size (.lst vs)) ⟨tq.hh,fun b u q=>?_,fun b u q=>?_,fun a ha=>?_⟩ ⟨_,vs,rfl,aF,DenL.mono (fun b u q=>?_) GY,JB⟩
    ·rw[av (fun z=>by have:=tq.ff b u q;rw[z,fD] at this;cases this)];exact tq.ff b u q
    ·by_cases z:b=s₂.heap.objs.size
     ·rw[z,aF] at q;rw[z,hD];exact q
     ·rw[av z] at q;exact tq.fh b u q
    ·rcases tq.new a ha with q | q
     ·exact .inl (by rw[av (fun z=>ha (by rw[z];exact nD))];exact q)
     ·exact .inr q
    ·rw[av (fun z=>by rw[z,fD] at q;cases q)];exact q
  ·rw[Lx]
   refine⟨0,F2,_,[],[],List.replicate (max n 1) none,by simp,Nat.zero_le _,by simp,I0,T.keep _ _ _ uw (fun b hb o e=>old b o e),fun b hb=>?_,⟨fun b u q=>?_,Same.refl _,fun b u q=>?_,fun _ _=> .inl rfl⟩,aF,Same.free e2.fh nD,rfl,?_⟩
   ·rw[av (Nat.ne_of_lt (fl b hb))];exact(f2 b hb).1
   ·rw[av (Iz b u q)];exact q
   ·rw[av (Iz b u (e2.fh b u q))];exact e2.fh b u q
   ·rw[List.drop_zero]
    rcases(cY (eJ n δt δe ρ) ds).cs with hq | ⟨m,hq⟩ | ⟨R,hq⟩<;>rw[hq]<;>rfl
 exact codeAny_compStart_list (loop _ rfl) (T.self X.A 0 _ _ _ (T.keep _ _ _ uw (fun b hb o e=>old b o e)) (loop _ rfl))
theorem Inv.block{X:Cx}{pins:List (Addr×Obj)}{σ:St}{H':Hp}{s1:Shared}{C:Addr}{h':Heap}(I:Inv X pins σ H' s1)(b:BlockEnd X pins C H' s1)(C3:Heap.SameBut C s1.heap h'):Inv X pins σ H' {s1 with heap:=h'}:=
 I.turned (t':=s1.toks) (fun a o ha e=>(C3.2 a ha).trans e) b.free b.nl (.inr b.nw) b.nc b.np
section
variable{X:Cx}{Xw:Nat→Hp→Prop}{elt iter tg:Expr}{ifs:List Expr}{scope:Scope}{pos:Pos}{tn:List Str}{n:Nat}{δi:DA}{δt:DT}{δe:DE}
theorem cR(sc:CompSc X scope tn)(hn:tn.length=max n 1)(hc:X.calm=true)(hi:uH X Xw tg iter δi)
 (hg:∀pins cl C fp s₂ H σ,xt (g_ X scope tn pins cl C fp s₂ H) tg n σ)
 (ht:∀pins cl C fp s₂ H,jr (g_ X scope tn pins cl C fp s₂ H) ifs δt)
 (he:∀pins cl C fp s₂ H,PD (g_ X scope tn pins cl C fp s₂ H) (fun _ _=>False) elt δe)
 (hs:∀x,foldedSetIterable iter X.env x=pure x:=by intro _;rfl):
 PD X Xw (.ListComp elt [⟨tg,iter,ifs,0⟩] scope pos) (aX n δi δt δe):=by
 intro pins s σ H Q I ⟨F,ρ,S,w⟩
 obtain⟨cl,yg,xI,Es⟩:=lh (scope:=scope) (env:=X.env) fun y hy hf=>I.ok.has y.1 (sc.frees y hy hf)
 rw[eval_ListComp]
 refine wpAny_comprehension_free (use:=none) rfl hs yg sc.kind sc.names (qO (RR:=fun acc C=>compPost (model X.prog X.w) X.A X.xe none (EP X pins σ Q) acc C) sc hn hc hi hg ht he I S w xI Es fun s1 C D H' I1 q b=>?_)
 obtain⟨m,hm⟩:=b.ns
 exact⟨m,hm,fun h' C3=>⟨.ref D,H',Inv.block I1 b C3,rfl,q⟩⟩
end
inductive Out where
 |nx (ρ:a5) | rt (d:D)
abbrev DS:=a5→M Out
structure StOk (K:W.Frag) (F₀ H₀ F H:Hp) (σ:St) (ρ:a5):Prop where
 ext:Ext F₀ H₀ F H
 st:StE K F H σ ρ
 len:ρ.length=σ.length
 own:∀(i:Nat) (c:C) (a:Addr),ρ[i]? =some (some (.ow c))→σ[i]? =some (some (.ref a))→H₀ a=none
 sep:∀(i j:Nat) (c c':C) (a:Addr),ρ[i]? =some (some (.ow c))→ρ[j]? =some (some (.ow c'))→σ[i]? =some (some (.ref a))→σ[j]? =some (some (.ref a))→i=j
def WPS(K:W.Frag)(Xw:Nat→Hp→Prop)(F₀ H₀:Hp)(m:M Out)(Dn:Ends):Prop:=
 match m with
 |none=>False
 |some (.ok (.nx ρ))=>∀σ F H,StOk K F₀ H₀ F H σ ρ→Dn.nx σ H
 |some (.ok (.rt d))=>∀v F H,Ext F₀ H₀ F H→Den K F d v→Dn.rt v H
 |some (.ex n)=>∀F H,Ext F₀ H₀ F H→Xw n H
def tS(K:W.Frag)(Xw:Nat→Hp→Prop)(F₀ H₀:Hp)(τ:DS):TS:=fun Dn σ H=>∃F ρ,StOk K F₀ H₀ F H σ ρ∧WPS K Xw F₀ H₀ (τ ρ) Dn
def iI(X:Cx)(Xw:Nat→Hp→Prop)(st:Stmt)(τ:DS):Prop:=∀F₀ H₀,PS X st (tS X.K Xw F₀ H₀ τ)
def PSDs(X:Cx)(Xw:Nat→Hp→Prop)(st:List Stmt)(τ:DS):Prop:=∀F₀ H₀,PSs X st (tS X.K Xw F₀ H₀ τ)
theorem PS.weak{X:Cx}{st:Stmt}{t t':TS}(h:PS X st t)(k:∀D σ H,t' D σ H→t D σ H):PS X st t':=fun pins s σ H D I w=>h pins s σ H D I (k D σ H w)
theorem PSs.weak{X:Cx}{st:List Stmt}{t t':TS}(h:PSs X st t)(k:∀D σ H,t' D σ H→t D σ H):PSs X st t':=fun pins s σ H D I w=>h pins s σ H D I (k D σ H w)
section
variable{K:W.Frag}{Xw:Nat→Hp→Prop}{F₀ H₀ F H F' H':Hp}{σ:St}{ρ:a5}
theorem StOk.ext'(s:StOk K F₀ H₀ F H σ ρ)(e:Ext F H F' H'):StOk K F₀ H₀ F' H' σ ρ:=⟨s.ext.trans e,s.st.ext e,s.len,s.own,s.sep⟩
theorem StOk.set(s:StOk K F₀ H₀ F H σ ρ){i:Nat}{d:D}{v:V}(h:Den K F d v):StOk K F₀ H₀ F H (σ.set i (some v)) (ρ.set i (some (.fz d))):=by
 have hl:=s.len
 have get:∀(j:Nat) (sl:Sl),(ρ.set i (some (.fz d)))[j]? =some (some sl)→(j=i∧i<ρ.length∧sl= .fz d)∨(j≠i∧ρ[j]? =some (some sl)):=fun j sl e=>by
  by_cases hj:j=i
  ·subst hj
   have hi:j<ρ.length:=by
    have:=(List.getElem?_eq_some_iff.mp e).1
    simpa using this
   rw[List.getElem?_set_self hi] at e
   cases e
   exact .inl ⟨rfl,hi,rfl⟩
  ·rw[List.getElem?_set_ne (Ne.symm hj)] at e
   exact .inr ⟨hj,e⟩
 refine⟨s.ext,⟨s.st.fh,fun j sl e=>?_⟩,by simp[hl],fun j c a e e'=>?_,fun j k c c' a e1 e2 e3 e4=>?_⟩
 ·rcases get j sl e with⟨rfl,hi,rfl⟩ | ⟨hj,e⟩
  ·exact⟨v,by rw[List.getElem?_set_self (by omega)],h⟩
  ·obtain⟨u,h1,h2⟩:=s.st.den j sl e
   exact⟨u,by rw[List.getElem?_set_ne (Ne.symm hj)];exact h1,h2⟩
 ·rcases get j _ e with⟨_,_,z⟩ | ⟨hj,e⟩
  ·cases z
  ·rw[List.getElem?_set_ne (Ne.symm hj)] at e'
   exact s.own j c a e e'
 ·rcases get j _ e1 with⟨_,_,z⟩ | ⟨hj,e1⟩
  ·cases z
  ·rcases get k _ e2 with⟨_,_,z⟩ | ⟨hk,e2⟩
   ·cases z
   ·rw[List.getElem?_set_ne (Ne.symm hj)] at e3
    rw[List.getElem?_set_ne (Ne.symm hk)] at e4
    exact s.sep j k c c' a e1 e2 e3 e4
theorem StOk.setNew(s:StOk K F₀ H₀ F H σ ρ){i:Nat}{a:Addr}{o:HO}{c₀:C}(n:H a=none)(h:DenC K F c₀ o):
 StOk K F₀ H₀ F (upd H a o) (σ.set i (some (.ref a))) (ρ.set i (some (.ow c₀))):=by
 have hle:=s.len
 have e0:=Ext.free (o:=o) s.st.fh n
 have nF:F a=none:=Same.free s.st.fh n
 have get:∀(j:Nat) (sl:Sl),(ρ.set i (some (.ow c₀)))[j]? =some (some sl)→(j=i∧i<ρ.length∧sl= .ow c₀)∨(j≠i∧ρ[j]? =some (some sl)):=fun j sl e=>by
  by_cases hj:j=i
  ·subst hj
   have hi:j<ρ.length:=by
    have:=(List.getElem?_eq_some_iff.mp e).1
    simpa using this
   rw[List.getElem?_set_self hi] at e
   cases e
   exact .inl ⟨rfl,hi,rfl⟩
  ·rw[List.getElem?_set_ne (Ne.symm hj)] at e
   exact .inr ⟨hj,e⟩
 have old:∀(j:Nat) (c:C) (b:Addr),ρ[j]? =some (some (.ow c))→σ[j]? =some (some (.ref b))→b≠a:=fun j c b e e' z=>by
  obtain⟨u,h1,b',o,h2,h3,_⟩:=s.st.den j _ e
  rw[h1] at e'
  cases e'
  cases h2
  rw[z,n] at h3
  cases h3
 refine⟨s.ext.trans e0,⟨e0.fh,fun j sl e=>?_⟩,by simp[hle],fun j c b e e'=>?_,fun j k c c' b e1 e2 e3 e4=>?_⟩
 ·rcases get j sl e with⟨rfl,hi,rfl⟩ | ⟨hj,e⟩
  ·exact⟨.ref a,by rw[List.getElem?_set_self (by omega)],a,_,rfl,aF,nF,h⟩
  ·obtain⟨u,h1,h2⟩:=s.st.den j sl e
   exact⟨u,by rw[List.getElem?_set_ne (Ne.symm hj)];exact h1,h2.ext e0⟩
 ·rcases get j _ e with⟨rfl,hi,_⟩ | ⟨hj,e⟩
  ·rw[List.getElem?_set_self (by omega)] at e'
   cases e'
   exact Same.free s.ext.hh n
  ·rw[List.getElem?_set_ne (Ne.symm hj)] at e'
   exact s.own j c b e e'
 ·rcases get j _ e1 with⟨rfl,hi,_⟩ | ⟨hj,e1⟩
  ·rw[List.getElem?_set_self (by omega)] at e3
   cases e3
   rcases get k _ e2 with⟨rfl,_,_⟩ | ⟨hk,e2⟩
   ·rfl
   ·rw[List.getElem?_set_ne (Ne.symm hk)] at e4
    exact absurd rfl (old k c' a e2 e4)
  ·rcases get k _ e2 with⟨HJ,hi,_⟩ | ⟨hk,e2⟩
   ·rw[HJ,List.getElem?_set_self (by omega)] at e4
    cases e4
    rw[List.getElem?_set_ne (Ne.symm hj)] at e3
    exact absurd rfl (old j c a (by assumption) e3)
   ·rw[List.getElem?_set_ne (Ne.symm hj)] at e3
    rw[List.getElem?_set_ne (Ne.symm hk)] at e4
    exact s.sep j k c c' b e1 e2 e3 e4
theorem StOk.chg(s:StOk K F₀ H₀ F H σ ρ){i:Nat}{a:Addr}{c c₀:C}{o₀:HO}(hi:ρ[i]? =some (some (.ow c)))(ha:σ[i]? =some (some (.ref a)))(h:DenC K F c₀ o₀):
 StOk K F₀ H₀ F (upd H a o₀) σ (ρ.set i (some (.ow c₀))):=by
 have hle:=s.len
 have h0:=s.own i c a hi ha
 obtain⟨u,q1,a',o,q2,q3,q4,q5⟩:=s.st.den i _ hi
 rw[ha] at q1
 cases q1
 cases q2
 have HE:i<ρ.length:=(List.getElem?_eq_some_iff.mp hi).1
 have get:∀(j:Nat) (sl:Sl),(ρ.set i (some (.ow c₀)))[j]? =some (some sl)→(j=i∧sl= .ow c₀)∨(j≠i∧ρ[j]? =some (some sl)):=fun j sl e=>by
  by_cases hj:j=i
  ·subst hj
   rw[List.getElem?_set_self HE] at e
   cases e
   exact .inl ⟨rfl,rfl⟩
  ·rw[List.getElem?_set_ne (Ne.symm hj)] at e
   exact .inr ⟨hj,e⟩
 have fh:Same F (upd H a o₀):=fun b o e=>by
  rw[av (fun z=>by rw[z,q4] at e;cases e)];exact s.st.fh b o e
 refine⟨⟨fun b o e=>?_,s.ext.ff,fh,s.ext.new⟩,⟨fh,fun j sl e=>?_⟩,by simp[hle],fun j c' b e e'=>?_,fun j k c1 c2 b e1 e2 e3 e4=>?_⟩
 ·rw[av (fun z=>by rw[z,h0] at e;cases e)];exact s.ext.hh b o e
 ·rcases get j sl e with⟨rfl,rfl⟩ | ⟨hj,e⟩
  ·exact⟨.ref a,ha,a,_,rfl,aF,q4,h⟩
  ·obtain⟨u,h1,h2⟩:=s.st.den j sl e
   refine⟨u,h1,?_⟩
   cases sl with
   |fz d=>exact h2
   |ow c'=>
    obtain⟨b,o',r1,r2,r3,r4⟩:=h2
    refine⟨b,o',r1,?_,r3,r4⟩
    rw[av (fun z=>hj (s.sep j i c' c a e hi (by rw[h1,r1,z]) ha))];exact r2
 ·rcases get j _ e with⟨rfl,_⟩ | ⟨hj,e⟩
  ·rw[ha] at e';cases e';exact h0
  ·exact s.own j c' b e e'
 ·have k1:∃c,ρ[j]? =some (some (.ow c)):=by
   rcases get j _ e1 with⟨rfl,_⟩ | ⟨_,e⟩
   ·exact⟨c,hi⟩
   ·exact⟨_,e⟩
  have k2:∃c,ρ[k]? =some (some (.ow c)):=by
   rcases get k _ e2 with⟨rfl,_⟩ | ⟨_,e⟩
   ·exact⟨c,hi⟩
   ·exact⟨_,e⟩
  obtain⟨_,k1⟩:=k1
  obtain⟨_,k2⟩:=k2
  exact s.sep j k _ _ b k1 k2 e3 e4
def frz(i:Nat)(ρ:a5):a5:=match ρ[i]? with
 |some (some (.ow c))=>ρ.set i (some (.fz c.d))
 |_=>ρ
theorem StOk.frz(s:StOk K F₀ H₀ F H σ ρ)(i:Nat)(obj:Addr→Obj):(∃a o,H a=some o∧DenC K F (ρ[i]?.elim (.lst []) fun x=>x.elim (.lst []) fun y=>match y with | .ow c=>c | _=> .lst []) o∧σ[i]? =some (some (.ref a))∧StOk K F₀ H₀ (upd F a (kJ (obj a) o)) (upd H a (kJ (obj a) o)) σ (frz i ρ))∨frz i ρ=ρ:=by
 unfold L3.frz
 split
 ·rename_i c₀ hi
  have hle:=s.len
  obtain⟨u,ha,a,o,rfl,q3,q4,B2⟩:=s.st.den i _ hi
  refine .inl ⟨a,o,q3,by rw[hi];exact B2,ha,?_⟩
  have h0:=s.own i _ a hi ha
  have HE:i<ρ.length:=(List.getElem?_eq_some_iff.mp hi).1
  have ff:Same F (upd F a (kJ (obj a) o)):=fun b o e=>by rw[av (fun z=>by rw[z,q4] at e;cases e)];exact e
  have fh:Same (upd F a (kJ (obj a) o)) (upd H a (kJ (obj a) o)):=fun b o e=>by
   by_cases z:b=a
   ·rw[z,aF] at e⊢;exact e
   ·rw[av z] at e⊢;exact s.st.fh b o e
  have get:∀(j:Nat) (sl:Sl),(ρ.set i (some (.fz c₀.d)))[j]? =some (some sl)→(j=i∧sl= .fz c₀.d)∨(j≠i∧ρ[j]? =some (some sl)):=fun j sl e=>by
   by_cases hj:j=i
   ·subst hj
    rw[List.getElem?_set_self HE] at e
    cases e
    exact .inl ⟨rfl,rfl⟩
   ·rw[List.getElem?_set_ne (Ne.symm hj)] at e
    exact .inr ⟨hj,e⟩
  refine⟨⟨fun b u q=>?_,s.ext.ff.trans ff,fh,fun b hb=>?_⟩,⟨fh,fun j sl e=>?_⟩,by simp[hle],fun j c' b e e'=>?_,fun j k c1 c2 b e1 e2 e3 e4=>?_⟩
  ·rw[av (fun z=>by rw[z,h0] at q;cases q)];exact s.ext.hh b u q
  ·rcases s.ext.new b hb with q | q
   ·exact .inl (by rw[av (fun z=>hb (by rw[z];exact h0))];exact q)
   ·exact .inr q
  ·rcases get j sl e with⟨rfl,rfl⟩ | ⟨hj,e⟩
   ·exact⟨.ref a,ha,DenC.den B2 ff aF⟩
   ·obtain⟨u,h1,h2⟩:=s.st.den j sl e
    refine⟨u,h1,?_⟩
    cases sl with
    |fz d=>exact Den.mono ff h2
    |ow c'=>
     obtain⟨b,o',r1,r2,r3,r4⟩:=h2
     have dB:b≠a:=fun z=>hj (s.sep j i c' _ a e hi (by rw[h1,r1,z]) ha)
     exact⟨b,o',r1,by rw[av dB];exact r2,by rw[av dB];exact r3,DenC.mono ff r4⟩
  ·rcases get j _ e with⟨_,z⟩ | ⟨hj,e⟩
   ·cases z
   ·exact s.own j c' b e e'
  ·rcases get j _ e1 with⟨_,z⟩ | ⟨_,e1⟩
   ·cases z
   ·rcases get k _ e2 with⟨_,z⟩ | ⟨_,e2⟩
    ·cases z
    ·exact s.sep j k _ _ b e1 e2 e3 e4
 ·exact .inr rfl
end
def join(F H:Hp):Hp:=fun a=>match F a with
 |some o=>some o
 |none=>H a
theorem StOk.rebase{K:W.Frag}{F₀ H₀ F H:Hp}{σ:St}{ρ:a5}(s:StOk K F₀ H₀ F H σ ρ):StOk K F (join F H₀) F H σ ρ∧∀F' H',Ext F (join F H₀) F' H'→Ext F₀ H₀ F' H':=by
 have hj:Same (join F H₀) H:=fun b o e=>by
  unfold join at e
  cases q:F b with
  |some u=>rw[q] at e;cases e;exact s.st.fh b _ q
  |none=>rw[q] at e;exact s.ext.hh b o e
 have h0:Same H₀ (join F H₀):=fun b o e=>by
  unfold join
  cases q:F b with
  |some u=>
   have h1:=s.st.fh b u q
   rw[s.ext.hh b o e] at h1
   exact h1.symm
  |none=>exact e
 refine⟨⟨⟨hj,Same.refl _,s.st.fh,fun _ _=> .inl rfl⟩,s.st,s.len,fun i c a e e'=>?_,s.sep⟩,fun F' H' x=>⟨h0.trans x.hh,s.ext.ff.trans x.ff,x.fh,fun a ha=>?_⟩⟩
 ·have h1:=s.own i c a e e'
  obtain⟨v,q1,a',o,q2,q3,q4,_⟩:=s.st.den i _ e
  rw[e'] at q1
  cases q1
  cases q2
  unfold join
  rw[q4]
  exact h1
 ·have:join F H₀ a≠none:=by
   cases q:H₀ a with
   |none=>exact absurd q ha
   |some o=>rw[h0 a o q];exact fun z=>nomatch z
  rcases s.ext.new a ha with p | p
  ·rcases x.new a this with q | ⟨ts,q⟩
   ·exact .inl (q.trans p)
   ·cases z:H₀ a with
    |none=>exact absurd z ha
    |some o=>
     rw[h0 a o z] at q
     exact .inr ⟨ts,q⟩
  ·exact .inr p
theorem StOk.unbase{K:W.Frag}{F₀ H₀ F U F' H':Hp}{σ:St}{ρ:a5}(k:∀F' H',Ext F U F' H'→Ext F₀ H₀ F' H')(s:StOk K F U F' H' σ ρ)(h:Same H₀ U):StOk K F₀ H₀ F' H' σ ρ:=
 ⟨k _ _ s.ext,s.st,s.len,fun i c a e e'=>Same.free h (s.own i c a e e'),s.sep⟩
theorem wg{K:W.Frag}{F₀ H₀ F H:Hp}{σ:St}{ρ:a5}(s:StOk K F₀ H₀ F H σ ρ):Same H₀ (join F H₀):=fun b o e=>by
 unfold join
 cases q:F b with
 |some u=>
  have h1:=s.st.fh b u q
  rw[s.ext.hh b o e] at h1
  exact h1.symm
 |none=>exact e
theorem Inv.refrz{X:Cx}{pins:List (Addr×Obj)}{σ:St}{H:Hp}{s:Shared}{a:Addr}{o o':HO}(I:Inv X pins σ H s)(e:H a=some o)
 (ho:o'=o∨∃u,o'= .frz ((s.heap.get? a).getD {cls:= .none,data:= .fields #[]}) u∧((∃k,o= .dT k∧u= .dT k)∨∃k,o= .dK k∧u= .dK k)):Inv X pins σ (upd H a o') s:=by
 rcases ho with rfl | ⟨u,rfl,hu⟩
 ·have:upd H a o'=H:=by
   funext b
   by_cases z:b=a
   ·rw[z,aF,e]
   ·rw[av z]
  rw[this];exact I
 have Lm:o=u:=by rcases hu with⟨k,h1,h2⟩ | ⟨k,h1,h2⟩<;>rw[h1,h2]
 subst Lm
 have nt:∀ts,o≠ .tup ts:=fun ts z=>by rcases hu with⟨k,h1,_⟩ | ⟨k,h1,_⟩<;>rw[h1] at z<;>cases z
 have nf:∀ob v,o≠ .frz ob v:=fun ob v z=>by rcases hu with⟨k,h1,_⟩ | ⟨k,h1,_⟩<;>rw[h1] at z<;>cases z
 have nb:∀p,o≠ .tbl p:=fun p z=>by rcases hu with⟨k,h1,_⟩ | ⟨k,h1,_⟩<;>rw[h1] at z<;>cases z
 have no:∀p,o≠ .own p:=fun p z=>by rcases hu with⟨k,h1,_⟩ | ⟨k,h1,_⟩<;>rw[h1] at z<;>cases z
 have ne:∀b,H b=none→b≠a:=fun b hb z=>by rw[z,e] at hb;cases hb
 have hk:=I.hok a o e
 have fX:=hk.lt
 obtain⟨ob,Fq⟩:∃ob,s.heap.get? a=some ob:=by
  rcases hu with⟨k,h1,_⟩ | ⟨k,h1,_⟩
  ·subst h1;obtain⟨_,_,_,_,ob,_,_,q,_⟩:=hk;exact⟨ob,q⟩
  ·subst h1;obtain⟨_,_,_,_,ob,_,_,q,_⟩:=hk;exact⟨ob,q⟩
 rw[Fq]
 refine⟨I.ok,I.os,I.bare,⟨I.base.keep,I.base.slot,fun b q h1 h2 h3=>?_,I.base.there,fun b xs q=>?_,fun b q1 v q=>?_,fun b ps q=>?_⟩,I.loc,I.cell,?_,fun x c q=>?_,fun p hp=>?_,fun b v q=>?_,I.len⟩
 ·have:=I.base.free b q h1 h2 h3
  rw[av (ne b this)];exact this
 ·have:=I.base.tups b xs q
  rw[av (fun z=>by rw[z,e] at this;exact nt xs (Option.some.inj this))];exact this
 ·have:=I.base.frzs b q1 v q
  rw[av (fun z=>by rw[z,e] at this;exact nf _ _ (Option.some.inj this))];exact this
 ·obtain⟨m,this⟩:=I.base.tbls b ps q
  exact⟨m,by rw[av (fun z=>by rw[z,e] at this;exact nb _ (Option.some.inj this))];exact this⟩
 ·rw[av (ne _ I.free)];exact I.free
 ·rw[av (ne _ (I.freeC x c q))];exact I.freeC x c q
 ·obtain⟨h1,h2,h3⟩:=I.pin p hp
  exact⟨h1,by rw[av (ne _ h2)];exact h2,h3⟩
 ·have st:∀{c:Addr}{v:HO},ObjOk X.prog X.w H s.heap c v→ObjOk X.prog X.w (upd H a (.frz ob o)) s.heap c v:=fun {c v} k=>k.stay (fun _ _ _ q=>q)
   (fun c' q=>by rw[av (fun z=>by rw[z,e] at q;exact no _ (Option.some.inj q))];exact q) fun c' xs q=>by rw[av (fun z=>by rw[z,e] at q;exact nt _ (Option.some.inj q))];exact q
  by_cases z:b=a
  ·subst z
   rw[show (some ob).getD _=ob from rfl,aF] at q
   cases q
   exact⟨Fq,st hk⟩
  ·rw[av z] at q
   exact st (I.hok b v q)
def az(a b:DS):DS:=fun ρ=>a ρ>>=fun o=>match o with | .nx ρ'=>b ρ' | .rt d=>M.ret (.rt d)
def bT:DS:=fun ρ=>M.ret (.nx ρ)
def aW(δ:DE):DS:=fun ρ=>δ ρ>>=fun d=>M.ret (.rt d)
def e7(δ:DE):DS:=fun ρ=>δ ρ>>=fun _=>M.ret (.nx ρ)
def bO(i:Nat)(δ:DE):DS:=fun ρ=>δ ρ>>=fun d=>M.ret (.nx (ρ.set i (some (.fz d))))
def eB(c:DT)(a b:DS):DS:=fun ρ=>c ρ>>=fun x=>if x then a ρ else b ρ
def zF(i:Nat)(a:DS):DS:=fun ρ=>a (frz i ρ)
def uk(i:Nat):DS:=fun ρ=>M.ret (.nx (ρ.set i (some (.ow (.lst [])))))
def wK(ρ:a5)(i:Nat):Option (List D):=match ρ[i]? with
 |some (some (.ow (.lst ds)))=>some ds
 |_=>none
theorem oH{ρ:a5}{i:Nat}{ds:List D}(h:wK ρ i=some ds):ρ[i]? =some (some (.ow (.lst ds))):=by
 unfold wK at h
 split at h
 ·rename_i ds' e
  cases h
  exact e
 ·cases h
def kO(i:Nat)(δ:DE):DS:=fun ρ=>match wK ρ i with
 |some ds=>δ ρ>>=fun d=>if ds.length<lim then M.ret (.nx (ρ.set i (some (.ow (.lst (ds++[d])))))) else M.stuck
 |none=>M.stuck
def zD(i:Nat)(δ:DE):DS:=fun ρ=>match wK ρ i with
 |some ds=>δ ρ>>=fun d=>lstM d>>=fun es=>if ds.length+es.length≤lim then M.ret (.nx (ρ.set i (some (.ow (.lst (ds++es)))))) else M.stuck
 |none=>M.stuck
def forL(put:D→a5→Option a5)(body:DS):List D→DS
 |[],ρ=>M.ret (.nx ρ)
 |d::ds,ρ=>(match put d ρ with | none=>M.stuck | some ρ1=>body ρ1>>=fun o=>match o with | .nx ρ2=>forL put body ds ρ2 | .rt v=>M.ret (.rt v))
def putN(i:Nat):D→a5→Option a5:=fun d ρ=>some (ρ.set i (some (.fz d)))
def da(put:D→a5→Option a5)(δi:DA)(body:DS):DS:=fun ρ=>δi ρ>>=fun ds=>forL put body ds ρ
section
variable{X:Cx}{Xw:Nat→Hp→Prop}{F₀ H₀:Hp}{st:Stmt}{rest:List Stmt}{τ τ':DS}{e:Expr}{δ:DE}{pos:Pos}
theorem a6:PSDs X Xw [] bT:=fun F₀ H₀=>PSs.weak Bp fun D σ H ⟨F,ρ,s,w⟩=>w σ F H s
theorem af(h1:iI X Xw st τ)(h2:PSDs X Xw rest τ'):PSDs X Xw (st::rest) (az τ τ'):=fun F₀ H₀=>PSs.weak (zi (h1 F₀ H₀) (h2 F₀ H₀)) fun D σ H ⟨F,ρ,s,w⟩=>by
 refine⟨F,ρ,s,?_⟩
 unfold az at w
 match τ ρ,w with
 |none,w=>exact w
 |some (.ok (.nx ρ')),w=>exact fun σ' F' H' s'=>⟨F',ρ',s',w⟩
 |some (.ok (.rt d)),w=>exact w
 |some (.ex n),w=>exact w
theorem aj(h1:iI X Xw st τ):PSDs X Xw [st] τ:=fun F₀ H₀=>Bq (h1 F₀ H₀)
theorem eO{i:Nat}(h:iI X Xw st τ):iI X Xw st (zF i τ):=fun F₀ H₀ pins sh σ H D I ⟨F,ρ,s,w⟩=>by
 rcases s.frz i (fun a=>(sh.heap.get? a).getD {cls:= .none,data:= .fields #[]}) with⟨a,o,ha,hc,hσ,s'⟩ | e
 ·refine h F₀ H₀ pins sh σ _ D (L3.Inv.refrz I ha ?_) ⟨_,_,s',w⟩
  generalize (ρ[i]?.elim (C.lst []) fun x=>x.elim (.lst []) fun y=>match y with | .ow c=>c | _=> .lst [])=c at hc
  cases c with
  |lst ds=>obtain⟨vs,rfl,_⟩:=hc;exact .inl rfl
  |dct ks ds=>obtain⟨vs,rfl,_⟩:=hc;exact .inr ⟨_,rfl, .inl ⟨_,rfl,rfl⟩⟩
  |dci ks ds=>obtain⟨vs,rfl,_⟩:=hc;exact .inr ⟨_,rfl, .inr ⟨_,rfl,rfl⟩⟩
 ·exact h F₀ H₀ pins sh σ H D I ⟨F,ρ,s,by unfold zF at w;rw[e] at w;exact w⟩
theorem ay(h:PD X Xw e δ):iI X Xw (.Return (some e) pos) (aW δ):=fun F₀ H₀=>PS.weak (D4 h) fun D σ H ⟨F,ρ,s,w⟩=>by
 refine⟨F,ρ,s.st,?_⟩
 unfold aW at w
 match δ ρ,w with
 |none,w=>exact w
 |some (.ok d),w=>exact fun v H' F' e' q=>w v F' H' (s.ext.trans e') q
 |some (.ex n),w=>exact fun F' H' e'=>w F' H' (s.ext.trans e')
theorem bL(h:PD X Xw e δ)(hs:swapsWith e none pos.line X.env=pure false:=by rfl):iI X Xw (.Expr e pos) (e7 δ):=fun F₀ H₀=>PS.weak (kX h hs) fun D σ H ⟨F,ρ,s,w⟩=>by
 refine⟨F,ρ,s.st,?_⟩
 unfold e7 at w
 match δ ρ,w with
 |none,w=>exact w
 |some (.ok d),w=>exact fun v H' F' e' q=>w σ F' H' (s.ext' e')
 |some (.ex n),w=>exact fun F' H' e'=>w F' H' (s.ext.trans e')
theorem a7{i:Nat}{x:Str}{pos':Pos}(hN:X.N.Nodup)(hi:X.N[i]? =some x)(hx:Loc X.env.scope x)(he:PD X Xw e δ)(hf:X.fn x=true∨X.env.scope.names.lookup x=some .local:=by first | exact .inl rfl | exact .inr rfl)
 (hs:swapsWithSole [.Name x pos'] e pos.line X.env=pure false:=by rfl):
 iI X Xw (.Assign [.Name x pos'] e pos) (bO i δ):=fun F₀ H₀=>PS.weak (qb he (bc hN hi hx hf) hs) fun D σ H ⟨F,ρ,s,w⟩=>by
 refine⟨F,ρ,s.st,?_⟩
 unfold bO at w
 match δ ρ,w with
 |none,w=>exact w
 |some (.ok d),w=>exact fun v H' F' e' q=>w _ F' H' ((s.ext' e').set q)
 |some (.ex n),w=>exact fun F' H' e'=>w F' H' (s.ext.trans e')
theorem rY{elt iter tg:Expr}{ifs:List Expr}{scope:Scope}{bf:Pos}{tn:List Str}{n:Nat}{δi:DA}{δt:DT}{δe:DE}{i:Nat}{x:Str}{pos':Pos}(hN:X.N.Nodup)(HD:X.N[i]? =some x)(hx:Loc X.env.scope x)
 (sc:CompSc X scope tn)(hn:tn.length=max n 1)(hc:X.calm=true)(hi:uH X Xw tg iter δi)
 (hg:∀pins cl C fp s₂ H σ,xt (g_ X scope tn pins cl C fp s₂ H) tg n σ)
 (ht:∀pins cl C fp s₂ H,jr (g_ X scope tn pins cl C fp s₂ H) ifs δt)
 (he:∀pins cl C fp s₂ H,PD (g_ X scope tn pins cl C fp s₂ H) (fun _ _=>False) elt δe)
 (hf:X.fn x=true∨X.env.scope.names.lookup x=some .local:=by first | exact .inl rfl | exact .inr rfl)
 (Lw:swapsWith (.ListComp elt [⟨tg,iter,ifs,0⟩] scope bf) (some (.Name x pos')) pos.line X.env=pure true:=by rfl)
 (hs:∀x,foldedSetIterable iter X.env x=pure x:=by intro _;rfl):
 iI X Xw (.Assign [.Name x pos'] (.ListComp elt [⟨tg,iter,ifs,0⟩] scope bf) pos) (bO i (aX n δi δt δe)):=fun F₀ H₀ pins s σ H D I ⟨F,ρ,S,w⟩=>by
 obtain⟨cl,yg,xI,Es⟩:=lh (scope:=scope) (env:=X.env) fun y hy hf=>I.ok.has y.1 (sc.frees y hy hf)
 have w':WP X.K Xw F H (aX n δi δt δe ρ) (fun v H'=>D.nx (σ.set i (some v)) H'):=by
  have w:WPS X.K Xw F₀ H₀ (aX n δi δt δe ρ>>=fun d=>M.ret (.nx (ρ.set i (some (.fz d))))) D:=w
  match aX n δi δt δe ρ,w with
  |none,w=>exact w
  |some (.ok d),w=>exact fun v H' F' e' q=>w _ F' H' ((S.ext' e').set q)
  |some (.ex n),w=>exact fun F' H' e'=>w F' H' (S.ext.trans e')
 rw[exec_Assign_Name_used _ _ _ _ Lw]
 refine wpAny_bind (wpAny_standAt (wpAny_bind ?_))
 show wpAny _ X.A (do let _←comprehension (.ListComp elt [⟨tg,iter,ifs,0⟩] scope bf) scope X.env _ (newList []) false (eval iter X.env) (some (assign (.Name x pos') X.env))) _ _ s
 refine wpAny_bind (wpAny_mono (wpAny_comprehension_free (use:=some (assign (.Name x pos') X.env)) (Q:=fun _ s'=>SP X pins D .next s') rfl hs yg sc.kind sc.names
  (qO (RR:=fun acc C=>compPost (model X.prog X.w) X.A X.xe (some (assign (.Name x pos') X.env)) (fun _ s'=>SP X pins D .next s') acc C) sc hn hc hi hg ht he I S.st w' xI Es fun s1 C D' H' I1 q b=>?_)) (fun _ s' hq=>wpAny_pure (wpAny_pure hq)) fun _ _ e=>e)
 show wpAny _ X.A (assign (.Name x pos') X.env (.ref D')) _ _ _
 refine wpAny_assign_Name (oZ I1 hN HD hx (v:= .ref D') rfl (fun s2 I2 ⟨a,sb,ha⟩=>?_) hf)
 have Ku:C≠a:=by
  rcases ha with z | z
  ·rw[z];exact b.nl
  ·exact Ne.symm (b.nc x a z)
 obtain⟨m,hm⟩:=b.ns
 have Au:s2.heap.Ns C m:=hm.sameBut sb Ku
 refine⟨m,Au,fun h' C3=>⟨_,H',Inv.block I2 ⟨⟨m,Au⟩,b.free,b.nl,b.nw,b.nc,b.np⟩ C3,q⟩⟩
theorem bz{c:Expr}{a b:List Stmt}{tc:DT}(hc:o8 X Xw c tc)(ha:PSDs X Xw a τ)(hb:PSDs X Xw b τ'):iI X Xw (.If c a b pos) (eB tc τ τ'):=fun F₀ H₀=>PS.weak (F9 hc (ha F₀ H₀) (hb F₀ H₀)) fun D σ H ⟨F,ρ,s,w⟩=>by
 refine⟨F,ρ,s.st,?_⟩
 unfold eB at w
 match tc ρ,w with
 |none,w=>exact w
 |some (.ok true),w=>exact fun H' F' e'=>⟨F',ρ,s.ext' e',w⟩
 |some (.ok false),w=>exact fun H' F' e'=>⟨F',ρ,s.ext' e',w⟩
 |some (.ex n),w=>exact fun F' H' e'=>w F' H' (s.ext.trans e')
theorem jc{i:Nat}{x:Str}{pos' jI:Pos}(hN:X.N.Nodup)(hi:X.N[i]? =some x)(hx:Loc X.env.scope x)(hf:X.fn x=true∨X.env.scope.names.lookup x=some .local:=by first | exact .inl rfl | exact .inr rfl):
 iI X Xw (.Assign [.Name x pos'] (.List [] jI) pos) (uk i):=fun F₀ H₀=>PS.weak (qb (zc p6) (bc hN hi hx hf) rfl) fun D σ H ⟨F,ρ,s,w⟩=>by
 refine⟨Nat.zero_le _,fun p hp=>?_⟩
 exact w _ F _ (s.setNew (c₀:= .lst []) hp ⟨[],rfl,rfl,Nat.zero_le _⟩)
def xr(K:W.Frag)(g:TG)(put:D→a5→Option a5):Prop:=∀(F₀ H₀ F H:Hp) (σ:St) (ρ ρ':a5) (d:D) (v:V) (Q:St→Hp→Prop),StOk K F₀ H₀ F H σ ρ→Den K F d v→put d ρ=some ρ'→
 (∀σ',StOk K F₀ H₀ F H σ' ρ'→Q σ' H)→g v σ H Q
theorem bM{K:W.Frag}{i:Nat}:xr K (yc i) (putN i):=fun F₀ H₀ F H σ ρ ρ' d v Q s q e k=>by
 cases e
 exact k _ (s.set q)
def LV(K:W.Frag)(Xw:Nat→Hp→Prop)(τ:DS):TS:=fun D σ H=>∃F₀ H₀,tS K Xw F₀ H₀ τ D σ H
theorem PSDs.ex{body:List Stmt}(h:PSDs X Xw body τ):PSs X body (LV X.K Xw τ):=fun pins s σ H D I ⟨F₀,H₀,w⟩=>h F₀ H₀ pins s σ H D I w
theorem bU{tg iter:Expr}{body:List Stmt}{δi:DA}{g:TG}{put:D→a5→Option a5}(hp:PassesOwn (model X.prog X.w) X.A X.env X.xe)(hc:X.calm=true)(hi:uH X Xw tg iter δi)(hg:PG X tg g)(HZ:xr X.K g put)(hb:PSDs X Xw body τ)
 (hs:∀x,foldedSetIterable iter X.env x=pure x:=by intro _;rfl):iI X Xw (.For tg iter body [] pos) (da put δi τ):=fun F₀ H₀=>PS.weak (D3 hp hc hi hg hb.ex hs) fun D σ H ⟨F,ρ,s,w⟩=>by
 refine⟨F,ρ,s.st,?_⟩
 unfold da at w
 match δi ρ,w with
 |none,w=>exact w
 |some (.ex n),w=>exact fun F' H' e'=>w F' H' (s.ext.trans e')
 |some (.ok ds),w=>
  have w:WPS X.K Xw F₀ H₀ (forL put τ ds ρ) D:=w
  intro J H1 F1 e1 J2
  obtain⟨s1,back⟩:=(s.ext' e1).rebase
  have hU:=wg (s.ext' e1)
  generalize join F1 H₀=U at s1 back hU
  refine⟨fun i m σ H=>m=ds.length - i∧i≤ds.length∧∃F ρ,StOk X.K F1 U F H σ ρ∧WPS X.K Xw F₀ H₀ (forL put τ (ds.drop i) ρ) D,⟨ds.length,by simp,Nat.zero_le _,F1,ρ,s1,by simpa using w⟩,?_⟩
  rintro i m σ2 H2 ⟨rfl,HF,F2,ρ2,s2,w2⟩
  by_cases fX:i<ds.length
  ·obtain⟨d,hd⟩:∃d,ds[i]? =some d:=⟨_,List.getElem?_eq_getElem fX⟩
   obtain⟨HC,C5⟩:=(J2 F2 H2 i s2.ext.ff s2.st.fh).1 d hd
   have ed:ds.drop i=d::ds.drop (i+1):=by
    obtain⟨hi,e⟩:=List.getElem?_eq_some_iff.mp hd
    rw[List.drop_eq_getElem_cons hi,e]
   rw[ed] at w2
   unfold forL at w2
   refine .inr ⟨HC,fun σ' H'=>∃F' ρ',StOk X.K F1 U F' H' σ' ρ'∧WPS X.K Xw F₀ H₀ (forL put τ (ds.drop (i+1)) ρ') D,fun σ' H' ⟨F',ρ',h2,h3⟩=>⟨ds.length - (i+1),by omega,rfl,fX,F',ρ',h2,h3⟩,fun x H3 y3=>?_⟩
   obtain⟨F3,z7,q3⟩:=C5 x H3 y3
   match Ln:put d ρ2,w2 with
   |none,w2=>exact w2.elim
   |some ρ3,w2=>
    refine HZ F1 U F3 H3 σ2 ρ2 ρ3 d x _ (s2.ext' z7) q3 Ln fun σ3 s3=>⟨F1,U,F3,ρ3,s3,?_⟩
    have w2:WPS X.K Xw F₀ H₀ (τ ρ3>>=fun o=>match o with | .nx ρ2=>forL put τ (ds.drop (i+1)) ρ2 | .rt v=>M.ret (.rt v)) D:=w2
    match τ ρ3,w2 with
    |none,w2=>exact w2
    |some (.ok (.nx ρ')),w2=>exact fun σ' F' H' s'=>⟨F',ρ',s',w2⟩
    |some (.ok (.rt d)),w2=>exact fun v F' H' e q=>w2 v F' H' (back _ _ e) q
    |some (.ex n),w2=>exact fun F' H' e=>w2 F' H' (back _ _ e)
  ·have hi:i=ds.length:=by omega
   subst hi
   rw[List.drop_length] at w2
   exact .inl ⟨(J2 F2 H2 ds.length s2.ext.ff s2.st.fh).2 (Nat.le_refl _),w2 σ2 F2 H2 (s2.unbase back hU)⟩
end
def gI(f:Int→Int→D):D→D→M D
 | .int i, .int j=>M.ret (f i j)
 |_,_=>M.stuck
def E5(c:Int→Int→Bool)(f:Int→Int→D):D→D→M D
 | .int i, .int j=>if c i j then M.ret (f i j) else M.stuck
 |_,_=>M.stuck
theorem ve{K:W.Frag}{gv:Int→Int→V}{gd:Int→Int→D}(h:∀F i j,Den K F (gd i j) (gv i j)):qF K (wY gv) (gI gd):=fun Xw F H x y dx dy Q s hx hy w=>by
 unfold gI at w
 split at w
 ·rename_i i j
  exact⟨i,j,hx,hy,WP.now w s (h F i j)⟩
 ·exact w.elim
theorem t9{K:W.Frag}{gv:Int→Int→V}{gd:Int→Int→D}{c:Int→Int→Bool}{C:Int→Int→Prop}(h:∀F i j,Den K F (gd i j) (gv i j))(hc:∀i j,c i j=true→C i j):qF K (rI C gv) (E5 c gd):=fun Xw F H x y dx dy Q s hx hy w=>by
 unfold E5 at w
 split at w
 ·rename_i i j
  split at w
  ·rename_i GP
   exact⟨i,j,hx,hy,hc i j GP,WP.now w s (h F i j)⟩
  ·exact w.elim
 ·exact w.elim
def c6:=gI fun i j=> .int (i+j)
def tE:=gI fun i j=> .int (i - j)
def gc:=E5 (fun i j=>decide ((-(2 ^ 64)<i∧i<2 ^ 64)∨(-(2 ^ 64)<j∧j<2 ^ 64))) fun i j=> .int (i*j)
def m6:=E5 (fun _ j=>decide (0<j∧j<1073741824)) fun i j=> .int (i / j)
def iQ:=E5 (fun _ j=>decide (0<j)) fun i j=> .int (i % j)
def Ju:=gI fun i j=> .bl (decide (i≤j))
section
variable{X:Cx}{Xw:Nat→Hp→Prop}{a b:Expr}{δa δb:DE}{pos:Pos}
theorem cM(ha:PD X Xw a δa)(hb:PD X Xw b δb):PD X Xw (.BinOp a .Add b pos) (d2 c6 δa δb):=h7 Ds (ve fun _ _ _=>rfl) ha hb
theorem p_(ha:PD X Xw a δa)(hb:PD X Xw b δb):PD X Xw (.BinOp a .Sub b pos) (d2 tE δa δb):=h7 DB (ve fun _ _ _=>rfl) ha hb
theorem iA(ha:PD X Xw a δa)(hb:PD X Xw b δb):PD X Xw (.BinOp a .Mult b pos) (d2 gc δa δb):=h7 Dx (t9 (fun _ _ _=>rfl) fun i j h=>by unfold CMul;exact of_decide_eq_true h) ha hb
theorem p9(ha:PD X Xw a δa)(hb:PD X Xw b δb):PD X Xw (.BinOp a .FloorDiv b pos) (d2 m6 δa δb):=h7 AW (t9 (fun _ _ _=>rfl) fun i j h=>by unfold EE;exact of_decide_eq_true h) ha hb
theorem jG(ha:PD X Xw a δa)(hb:PD X Xw b δb):PD X Xw (.BinOp a .Mod b pos) (d2 iQ δa δb):=h7 Dw (t9 (fun _ _ _=>rfl) fun i j h=>of_decide_eq_true h) ha hb
def cx:D→D→M D
 | .lst ds, .int i=>match atI ds i with | some d=>M.ret d | none=>M.stuck
 |_,_=>M.stuck
def aU:D→D→M D
 | .tup ds, .int i=>match atI ds i with | some d=>M.ret d | none=>M.stuck
 |_,_=>M.stuck
def ya:D→D→M D
 | .scr ns, .int i=>match atI ns i with | some n=>M.ret (.int n) | none=>M.stuck
 |_,_=>M.stuck
def pD:D→D→M D
 | .str x, .int i=>match atI x.cps.toList i with | some c=>M.ret (.str ⟨#[c]⟩) | none=>M.stuck
 |_,_=>M.stuck
theorem DenL.atI{K:W.Frag}{F:Hp}{ds:List D}{vs:List V}(h:DenL K F ds vs){i:Int}{d:D}(e:L2.atI ds i=some d):∃v,L2.atI vs i=some v∧Den K F d v:=by
 unfold L2.atI at e⊢
 rw[←h.len]
 cases q:Aa ds.length i with
 |none=>rw[q] at e;cases e
 |some j=>
  rw[q] at e
  exact h.get e
theorem A0{K:W.Frag}:qF K (Ea K) cx:=fun Xw F H x y dx dy Q s hx hy w=>by
 unfold cx at w
 split at w
 ·rename_i ds i
  obtain⟨a,vs,h1,h2,h3,h4⟩:=hx
  split at w
  ·rename_i d e
   obtain⟨v,e1,q⟩:=h3.atI e
   exact⟨a,vs,i,v,h1,hy,SqL.of (s _ _ h2),e1,WP.now w s q⟩
  ·exact w.elim
 ·exact w.elim
theorem A3{K:W.Frag}:qF K (Gg K) aU:=fun Xw F H x y dx dy Q s hx hy w=>by
 unfold aU at w
 split at w
 ·rename_i ds i
  obtain⟨a,vs,h1,h2,h3,h4⟩:=hx
  split at w
  ·rename_i d e
   obtain⟨v,e1,q⟩:=h3.atI e
   exact⟨a,vs,i,v,h1,hy,SqT.of (s _ _ h2),e1,WP.now w s q⟩
  ·exact w.elim
 ·exact w.elim
theorem A1{K:W.Frag}:qF K (Ea K) ya:=fun Xw F H x y dx dy Q s hx hy w=>by
 unfold ya at w
 split at w
 ·rename_i ns i
  obtain⟨a,h1,h2,h3⟩:=hx
  split at w
  ·rename_i n e
   refine⟨a,_,i, .int n,h1,hy,Same.seq s h2,?_,WP.now w s rfl⟩
   unfold L2.atI at e⊢
   rw[List.length_map]
   cases q:Aa ns.length i with
   |none=>rw[q] at e;cases e
   |some j=>
    rw[q] at e
    have e:ns[j]? =some n:=e
    show (ns.map V.int)[j]? =some (.int n)
    rw[List.getElem?_map,e];rfl
  ·exact w.elim
 ·exact w.elim
theorem A2{K:W.Frag}:qF K Gf pD:=fun Xw F H x y dx dy Q s hx hy w=>by
 unfold pD at w
 split at w
 ·rename_i z i
  obtain⟨h1,h2⟩:=hx
  split at w
  ·rename_i c e
   exact⟨z,i,c,h1,hy,by have:=cf;omega,e,WP.now w s ⟨rfl,by show 1≤lim;decide⟩⟩
  ·exact w.elim
 ·exact w.elim
theorem eY(ha:PD X Xw a δa)(hb:PD X Xw b δb)(hs:gN b:=by intro _ _;rfl):PD X Xw (.Subscript a b pos) (d2 cx δa δb):=vo u0 A0 ha hb hs
theorem DK(ha:PD X Xw a δa)(hb:PD X Xw b δb)(hs:gN b:=by intro _ _;rfl):PD X Xw (.Subscript a b pos) (d2 ya δa δb):=vo u0 A1 ha hb hs
theorem bu(ha:PD X Xw a δa)(hb:PD X Xw b δb)(hs:gN b:=by intro _ _;rfl):PD X Xw (.Subscript a b pos) (d2 aU δa δb):=vo Dg A3 ha hb hs
theorem yW(ha:PD X Xw a δa)(hb:PD X Xw b δb)(hs:gN b:=by intro _ _;rfl):PD X Xw (.Subscript a b pos) (d2 pD δa δb):=vo Df A2 ha hb hs
def lx:D→D→M D
 | .lst x, .lst y=>if x.length+y.length≤lim then M.ret (.lst (x++y)) else M.stuck
 |_,_=>M.stuck
def An:D→D→M D
 | .lst x, .int k=>if (0≤k∧k≤64)∧x.length*k.toNat≤lim then M.ret (.lst (List.replicate k.toNat x).flatten) else M.stuck
 |_,_=>M.stuck
theorem gJ(x y:Str):(x++y).length=x.length+y.length:=by
 show (x.cps++y.cps).size=_
 simp[Str.length]
theorem vi(ha:PD X Xw a δa)(hb:PD X Xw b δb):PD X Xw (.BinOp a .Add b pos) (d2 lx δa δb):=h7 Dt (fun Xw F H x y dx dy Q s hx hy w=>by
 unfold lx at w
 split at w
 ·rename_i i j
  obtain⟨a,vs,h1,h2,h3,h4⟩:=hx
  obtain⟨a',vs',k1,k2,k3,k4⟩:=hy
  split at w
  ·rename_i hl
   have e1:=h3.len
   have e2:=k3.len
   have:=cf
   refine⟨a,a',vs,vs',h1,k1,s _ _ h2,s _ _ k2,by omega,fun p hp=>?_⟩
   exact WP.fin w (Ext.lay s hp) ⟨p,_,rfl,aF,DenL.mono (Ext.lay s hp).ff (h3.append k3),by rw[List.length_append];exact hl⟩
  ·exact w.elim
 ·exact w.elim) ha hb
theorem DenL.rep{K:W.Frag}{F:Hp}{ds:List D}{vs:List V}(h:DenL K F ds vs):∀n:Nat,DenL K F (List.replicate n ds).flatten (List.replicate n vs).flatten
 |0=>rfl
 |n+1=>by
  rw[List.replicate_succ,List.replicate_succ,List.flatten_cons,List.flatten_cons]
  exact h.append (DenL.rep h n)
theorem DN(ha:PD X Xw a δa)(hb:PD X Xw b δb):PD X Xw (.BinOp a .Mult b pos) (d2 An δa δb):=h7 Dz (fun Xw F H x y dx dy Q s hx hy w=>by
 unfold An at w
 split at w
 ·rename_i i k
  obtain⟨a,vs,h1,h2,h3,h4⟩:=hx
  split at w
  ·rename_i hl
   obtain⟨⟨l1,l2⟩,l3⟩:=hl
   have e1:=h3.len
   have:=cf
   refine⟨a,k,vs,h1,hy,s _ _ h2,by omega,by omega,by rw[←e1];omega,fun p hp=>?_⟩
   exact WP.fin w (Ext.lay s hp) ⟨p,_,rfl,aF,DenL.mono (Ext.lay s hp).ff (h3.rep _),by rw[len_rep,Nat.mul_comm];exact l3⟩
  ·exact w.elim
 ·exact w.elim) ha hb
end
end L3
namespace L3
open PySem PySem.Spec L2 SeqAt
open PyProof.Rows hiding St
def lu(f:D→D→Option Bool):List D→List D→Option Bool
 |[],[]=>some true
 |x::xs,y::ys=>match f x y,lu f xs ys with
  |some b,some r=>some (b&&r)
  |_,_=>none
 |[],_::_=>some false
 |_::_,[]=>some false
def tj:D→D→Option Bool
 | .non, .non=>some true
 | .bl a, .bl b=>some (a==b)
 | .bl a, .int j=>some ((if a then 1 else 0)==j)
 | .int i, .bl b=>some (i==(if b then 1 else 0))
 | .int i, .int j=>some (i==j)
 | .str x, .str y=>some (x==y)
 | .non, .bl _=>some false
 | .non, .int _=>some false
 | .non, .str _=>some false
 | .non, .lst _=>some false
 | .non, .tup _=>some false
 | .bl _, .non=>some false
 | .bl _, .str _=>some false
 | .bl _, .lst _=>some false
 | .bl _, .tup _=>some false
 | .int _, .non=>some false
 | .int _, .str _=>some false
 | .int _, .lst _=>some false
 | .int _, .tup _=>some false
 | .str _, .non=>some false
 | .str _, .bl _=>some false
 | .str _, .int _=>some false
 | .str _, .lst _=>some false
 | .str _, .tup _=>some false
 | .lst _, .non=>some false
 | .lst _, .bl _=>some false
 | .lst _, .int _=>some false
 | .lst _, .str _=>some false
 | .lst _, .tup _=>some false
 | .tup _, .non=>some false
 | .tup _, .bl _=>some false
 | .tup _, .int _=>some false
 | .tup _, .str _=>some false
 | .tup _, .lst _=>some false
 |_,_=>none
def jq:Nat→D→D→Option Bool
 |n+1, .tup xs, .tup ys=>lu (jq n) xs ys
 |n+1, .lst xs, .lst ys=>lu (jq n) xs ys
 |n+1, .scr xs, .lst ys=>lu (jq n) (xs.map D.int) ys
 |_,x,y=>tj x y
structure EqAll (A:Around) (s:Shared) (u v:Value) (b:Bool):Prop where
 rc:RcAt A s u v b
 ne:RcNeAt A s u v (!b)
 eq:EqAt A s u v b
section
variable{X:Cx}{pins:List (Addr×Obj)}{σ:St}{F H:Hp}{s:Shared}{A:Around}
theorem dW(I:Inv X pins σ H s)(hs:Same F H){ds:List D}{v:V}{u:Value}(h:Den X.K F (.tup ds) v)(r:RelV v u):∃a vs aA,u= .ref a∧v= .ref a∧F a=some (.tup vs)∧DenL X.K F ds vs∧Vals vs aA∧s.heap.IsTuple a aA.toArray:=by
 obtain⟨a,vs,rfl,h2,h3,h4⟩:=h
 obtain⟨aA,r1,p1,_⟩:=I.tuple (SqT.of (hs _ _ h2))
 exact⟨a,vs,aA,r,rfl,h2,h3,r1,p1⟩
theorem dq(I:Inv X pins σ H s)(hs:Same F H){ds:List D}{v:V}{u:Value}(h:Den X.K F (.lst ds) v)(r:RelV v u):∃a vs aA,u= .ref a∧v= .ref a∧F a=some (.lst vs)∧DenL X.K F ds vs∧Vals vs aA∧s.heap.IsList a aA.toArray:=by
 obtain⟨a,vs,rfl,h2,h3,h4⟩:=h
 obtain⟨aA,r1,p1,_⟩:=I.list (SqL.of (hs _ _ h2))
 exact⟨a,vs,aA,r,rfl,h2,h3,r1,p1.isList⟩
theorem Eg(I:Inv X pins σ H s)(hs:Same F H){ns:List Int}{v:V}{u:Value}(h:Den X.K F (.scr ns) v)(r:RelV v u):∃a aA,u= .ref a∧v= .ref a∧SqL X.K F a (ns.map V.int)∧Vals (ns.map V.int) aA∧s.heap.IsList a aA.toArray:=by
 obtain⟨a,rfl,h2,h3⟩:=h
 obtain⟨aA,r1,p1,_⟩:=I.list (Same.seq hs h2)
 exact⟨a,aA,r,rfl,h2,r1,p1.isList⟩
theorem qY(I:Inv X pins σ H s)(hs:Same F H)(hu:A.units<cLine){x y:D}{v w:V}{u t:Value}{b:Bool}(hx:Den X.K F x v)(hy:Den X.K F y w)(rx:RelV v u)(ry:RelV w t)(e:tj x y=some b):EqAll A s u t b:=by
 cases x with
 |non=>
  cases y with
  |non=>
   cases e
   cases (show _=_ from hx)
   cases rx
   cases (show _=_ from hy)
   cases ry
   exact⟨RcAt.none_none,RcNeAt.none_none,EqAt.same _⟩
  |bl d=>
   cases e
   cases (show _=_ from hx)
   cases rx
   cases (show _=_ from hy)
   cases ry
   exact⟨RcAt.none_bool _,RcNeAt.none_bool _,EqAt.none_bool _⟩
  |int d=>
   cases e
   cases (show _=_ from hx)
   cases rx
   cases (show _=_ from hy)
   obtain⟨t2,rfl⟩:=ry
   exact⟨RcAt.none_int _ _,RcNeAt.none_int _ _,EqAt.none_int _ _⟩
  |str d=>
   cases e
   cases (show _=_ from hx)
   cases rx
   cases (show _=_ from hy.1)
   obtain⟨t2,rfl⟩:=ry
   exact⟨RcAt.none_str _ _,RcNeAt.none_str _ _,EqAt.none_str _ _⟩
  |raw d=>cases e
  |dct _ _=>cases e
  |dci _ _=>cases e
  |exc d=>cases e
  |scr d=>cases e
  |tup d=>
   cases e
   cases (show _=_ from hx)
   cases rx
   obtain⟨a2,_,_,rfl,_,_,_,_,p2⟩:=dW I hs hy ry
   exact⟨RcAt.none_tuple p2 hu,RcNeAt.none_tuple p2 hu,EqAt.none_tuple p2 hu⟩
  |lst d=>
   cases e
   cases (show _=_ from hx)
   cases rx
   obtain⟨a2,_,_,rfl,_,_,_,_,p2⟩:=dq I hs hy ry
   exact⟨RcAt.none_list p2 hu,RcNeAt.none_list p2 hu,EqAt.none_list p2 hu⟩
 |bl c=>
  cases y with
  |non=>
   cases e
   cases (show _=_ from hx)
   cases rx
   cases (show _=_ from hy)
   cases ry
   exact⟨RcAt.bool_none _,RcNeAt.bool_none _,EqAt.bool_none _⟩
  |bl d=>
   cases e
   cases (show _=_ from hx)
   cases rx
   cases (show _=_ from hy)
   cases ry
   exact⟨RcAt.bool_bool _ _,RcNeAt.bool_bool _ _,EqAt.bool_bool _ _⟩
  |int d=>
   cases e
   cases (show _=_ from hx)
   cases rx
   cases (show _=_ from hy)
   obtain⟨t2,rfl⟩:=ry
   exact⟨RcAt.bool_int _ _ _,RcNeAt.bool_int _ _ _,EqAt.bool_int _ _ _⟩
  |str d=>
   cases e
   cases (show _=_ from hx)
   cases rx
   cases (show _=_ from hy.1)
   obtain⟨t2,rfl⟩:=ry
   exact⟨RcAt.bool_str _ _ _,RcNeAt.bool_str _ _ _,EqAt.bool_str _ _ _⟩
  |raw d=>cases e
  |dct _ _=>cases e
  |dci _ _=>cases e
  |exc d=>cases e
  |scr d=>cases e
  |tup d=>
   cases e
   cases (show _=_ from hx)
   cases rx
   obtain⟨a2,_,_,rfl,_,_,_,_,p2⟩:=dW I hs hy ry
   exact⟨RcAt.bool_tuple _ p2 hu,RcNeAt.bool_tuple _ p2 hu,EqAt.bool_tuple _ p2 hu⟩
  |lst d=>
   cases e
   cases (show _=_ from hx)
   cases rx
   obtain⟨a2,_,_,rfl,_,_,_,_,p2⟩:=dq I hs hy ry
   exact⟨RcAt.bool_list _ p2 hu,RcNeAt.bool_list _ p2 hu,EqAt.bool_list _ p2 hu⟩
 |int c=>
  cases y with
  |non=>
   cases e
   cases (show _=_ from hx)
   obtain⟨t1,rfl⟩:=rx
   cases (show _=_ from hy)
   cases ry
   exact⟨RcAt.int_none _ _,RcNeAt.int_none _ _,EqAt.int_none _ _⟩
  |bl d=>
   cases e
   cases (show _=_ from hx)
   obtain⟨t1,rfl⟩:=rx
   cases (show _=_ from hy)
   cases ry
   exact⟨RcAt.int_bool _ _ _,RcNeAt.int_bool _ _ _,EqAt.int_bool _ _ _⟩
  |int d=>
   cases e
   cases (show _=_ from hx)
   obtain⟨t1,rfl⟩:=rx
   cases (show _=_ from hy)
   obtain⟨t2,rfl⟩:=ry
   exact⟨RcAt.int_int _ _ _ _,RcNeAt.int_int _ _ _ _,EqAt.int_int _ _ _ _⟩
  |str d=>
   cases e
   cases (show _=_ from hx)
   obtain⟨t1,rfl⟩:=rx
   cases (show _=_ from hy.1)
   obtain⟨t2,rfl⟩:=ry
   exact⟨RcAt.int_str _ _ _ _,RcNeAt.int_str _ _ _ _,EqAt.int_str _ _ _ _⟩
  |raw d=>cases e
  |dct _ _=>cases e
  |dci _ _=>cases e
  |exc d=>cases e
  |scr d=>cases e
  |tup d=>
   cases e
   cases (show _=_ from hx)
   obtain⟨t1,rfl⟩:=rx
   obtain⟨a2,_,_,rfl,_,_,_,_,p2⟩:=dW I hs hy ry
   exact⟨RcAt.int_tuple _ _ p2 hu,RcNeAt.int_tuple _ _ p2 hu,EqAt.int_tuple _ _ p2 hu⟩
  |lst d=>
   cases e
   cases (show _=_ from hx)
   obtain⟨t1,rfl⟩:=rx
   obtain⟨a2,_,_,rfl,_,_,_,_,p2⟩:=dq I hs hy ry
   exact⟨RcAt.int_list _ _ p2 hu,RcNeAt.int_list _ _ p2 hu,EqAt.int_list _ _ p2 hu⟩
 |str c=>
  cases y with
  |non=>
   cases e
   cases (show _=_ from hx.1)
   obtain⟨t1,rfl⟩:=rx
   cases (show _=_ from hy)
   cases ry
   exact⟨RcAt.str_none _ _,RcNeAt.str_none _ _,EqAt.str_none _ _⟩
  |bl d=>
   cases e
   cases (show _=_ from hx.1)
   obtain⟨t1,rfl⟩:=rx
   cases (show _=_ from hy)
   cases ry
   exact⟨RcAt.str_bool _ _ _,RcNeAt.str_bool _ _ _,EqAt.str_bool _ _ _⟩
  |int d=>
   cases e
   cases (show _=_ from hx.1)
   obtain⟨t1,rfl⟩:=rx
   cases (show _=_ from hy)
   obtain⟨t2,rfl⟩:=ry
   exact⟨RcAt.str_int _ _ _ _,RcNeAt.str_int _ _ _ _,EqAt.str_int _ _ _ _⟩
  |str d=>
   cases e
   cases (show _=_ from hx.1)
   obtain⟨t1,rfl⟩:=rx
   cases (show _=_ from hy.1)
   obtain⟨t2,rfl⟩:=ry
   exact⟨RcAt.str_str _ _ _ _,RcNeAt.str_str _ _ _ _,EqAt.str_str _ _ _ _⟩
  |raw d=>cases e
  |dct _ _=>cases e
  |dci _ _=>cases e
  |exc d=>cases e
  |scr d=>cases e
  |tup d=>
   cases e
   cases (show _=_ from hx.1)
   obtain⟨t1,rfl⟩:=rx
   obtain⟨a2,_,_,rfl,_,_,_,_,p2⟩:=dW I hs hy ry
   exact⟨RcAt.str_tuple _ _ p2 hu,RcNeAt.str_tuple _ _ p2 hu,EqAt.str_tuple _ _ p2 hu⟩
  |lst d=>
   cases e
   cases (show _=_ from hx.1)
   obtain⟨t1,rfl⟩:=rx
   obtain⟨a2,_,_,rfl,_,_,_,_,p2⟩:=dq I hs hy ry
   exact⟨RcAt.str_list _ _ p2 hu,RcNeAt.str_list _ _ p2 hu,EqAt.str_list _ _ p2 hu⟩
 |raw _=>cases y<;>cases e
 |dct _ _=>cases y<;>cases e
 |dci _ _=>cases y<;>cases e
 |exc _=>cases y<;>cases e
 |scr c=>cases y<;>cases e
 |tup c=>
  cases y with
  |non=>
   cases e
   obtain⟨a1,_,_,rfl,_,_,_,_,p1⟩:=dW I hs hx rx
   cases (show _=_ from hy)
   cases ry
   exact⟨RcAt.tuple_none p1 hu,RcNeAt.tuple_none p1 hu,EqAt.tuple_none p1 hu⟩
  |bl d=>
   cases e
   obtain⟨a1,_,_,rfl,_,_,_,_,p1⟩:=dW I hs hx rx
   cases (show _=_ from hy)
   cases ry
   exact⟨RcAt.tuple_bool _ p1 hu,RcNeAt.tuple_bool _ p1 hu,EqAt.tuple_bool _ p1 hu⟩
  |int d=>
   cases e
   obtain⟨a1,_,_,rfl,_,_,_,_,p1⟩:=dW I hs hx rx
   cases (show _=_ from hy)
   obtain⟨t2,rfl⟩:=ry
   exact⟨RcAt.tuple_int _ _ p1 hu,RcNeAt.tuple_int _ _ p1 hu,EqAt.tuple_int _ _ p1 hu⟩
  |str d=>
   cases e
   obtain⟨a1,_,_,rfl,_,_,_,_,p1⟩:=dW I hs hx rx
   cases (show _=_ from hy.1)
   obtain⟨t2,rfl⟩:=ry
   exact⟨RcAt.tuple_str _ _ p1 hu,RcNeAt.tuple_str _ _ p1 hu,EqAt.tuple_str _ _ p1 hu⟩
  |raw d=>cases e
  |dct _ _=>cases e
  |dci _ _=>cases e
  |exc d=>cases e
  |scr d=>cases e
  |tup d=>cases e
  |lst d=>
   cases e
   obtain⟨a1,_,_,rfl,_,_,_,_,p1⟩:=dW I hs hx rx
   obtain⟨a2,_,_,rfl,_,_,_,_,p2⟩:=dq I hs hy ry
   exact⟨RcAt.tuple_list p1 p2 hu,RcNeAt.tuple_list p1 p2 hu,EqAt.tuple_list p1 p2 hu⟩
 |lst c=>
  cases y with
  |non=>
   cases e
   obtain⟨a1,_,_,rfl,_,_,_,_,p1⟩:=dq I hs hx rx
   cases (show _=_ from hy)
   cases ry
   exact⟨RcAt.list_none p1 hu,RcNeAt.list_none p1 hu,EqAt.list_none p1 hu⟩
  |bl d=>
   cases e
   obtain⟨a1,_,_,rfl,_,_,_,_,p1⟩:=dq I hs hx rx
   cases (show _=_ from hy)
   cases ry
   exact⟨RcAt.list_bool _ p1 hu,RcNeAt.list_bool _ p1 hu,EqAt.list_bool _ p1 hu⟩
  |int d=>
   cases e
   obtain⟨a1,_,_,rfl,_,_,_,_,p1⟩:=dq I hs hx rx
   cases (show _=_ from hy)
   obtain⟨t2,rfl⟩:=ry
   exact⟨RcAt.list_int _ _ p1 hu,RcNeAt.list_int _ _ p1 hu,EqAt.list_int _ _ p1 hu⟩
  |str d=>
   cases e
   obtain⟨a1,_,_,rfl,_,_,_,_,p1⟩:=dq I hs hx rx
   cases (show _=_ from hy.1)
   obtain⟨t2,rfl⟩:=ry
   exact⟨RcAt.list_str _ _ p1 hu,RcNeAt.list_str _ _ p1 hu,EqAt.list_str _ _ p1 hu⟩
  |raw d=>cases e
  |dct _ _=>cases e
  |dci _ _=>cases e
  |exc d=>cases e
  |scr d=>cases e
  |tup d=>
   cases e
   obtain⟨a1,_,_,rfl,_,_,_,_,p1⟩:=dq I hs hx rx
   obtain⟨a2,_,_,rfl,_,_,_,_,p2⟩:=dW I hs hy ry
   exact⟨RcAt.list_tuple p1 p2 hu,RcNeAt.list_tuple p1 p2 hu,EqAt.list_tuple p1 p2 hu⟩
  |lst d=>cases e
end
def ev(f:D→D→Option Bool)(xs ys:List D)(j:Nat):Bool:=match xs[j]?,ys[j]? with
 |some x,some y=>(f x y).getD false
 |_,_=>false
theorem qX{f:D→D→Option Bool}:∀{xs ys:List D}{b:Bool},lu f xs ys=some b→∀(j:Nat) (x y:D),xs[j]? =some x→ys[j]? =some y→∃c,f x y=some c
 |[],_,_,_,_,_,_,h,_=>by simp at h
 |_::_,[],_,_,_,_,_,_,h=>by simp at h
 |x::xs,y::ys,b,e,j,x',y',hx,hy=>by
  unfold lu at e
  split at e
  ·rename_i b1 r1 e1 e2
   cases j with
   |zero=>simp at hx hy;subst hx hy;exact⟨_,e1⟩
   |succ j=>exact qX e2 j x' y' (by simpa using hx) (by simpa using hy)
  ·cases e
theorem pB{f:D→D→Option Bool}:∀{xs ys:List D}{b:Bool},lu f xs ys=some b→b=((List.range (min xs.length ys.length)).all (ev f xs ys)&&xs.length==ys.length)
 |[],[],_,e=>by cases e;rfl
 |[],_::_,_,e=>by cases e;simp
 |_::_,[],_,e=>by cases e;simp
 |x::xs,y::ys,b,e=>by
  unfold lu at e
  split at e
  ·rename_i b1 r1 e1 e2
   cases e
   have h:=pB e2
   rw[List.length_cons,List.length_cons,Nat.succ_min_succ,List.range_succ_eq_map,List.all_cons,List.all_map]
   have e0:ev f (x::xs) (y::ys) 0=b1:=by unfold ev;simp[e1]
   have e3:(ev f (x::xs) (y::ys)∘Nat.succ)=ev f xs ys:=by funext j;simp[ev,Function.comp]
   have e4:(xs.length+1==ys.length+1)=(xs.length==ys.length):=by simp
   rw[e0,e3,e4,h,Bool.and_assoc]
  ·cases e
section
variable{X:Cx}{pins:List (Addr×Obj)}{σ:St}{F H:Hp}{s:Shared}
theorem iN{f:D→D→Option Bool}(h:∀x y v b,Den X.K F x v→Den X.K F y v→f x y=some b→b=true):∀{xs ys:List D}{vs:List V}{b:Bool},DenL X.K F xs vs→DenL X.K F ys vs→lu f xs ys=some b→b=true
 |[],[],_,_,_,_,e=>by cases e;rfl
 |[],_::_,_,_,h1,h2,_=>by
  cases (show _=_ from h1)
  obtain⟨v,r,z,_⟩:=h2
  cases z
 |_::_,[],_,_,h1,h2,_=>by
  cases (show _=_ from h2)
  obtain⟨v,r,z,_⟩:=h1
  cases z
 |x::xs,y::ys,_,b,⟨v,r,e1,q1,q2⟩,⟨v',r',e2,q3,q4⟩,e=>by
  subst e1
  cases e2
  unfold lu at e
  split at e
  ·rename_i b1 r1 f1 f2
   cases e
   rw[h x y v b1 q1 q3 f1,iN h q2 q4 f2]
   rfl
  ·cases e
theorem nR{x y:D}{v:V}{b:Bool}(hx:Den X.K F x v)(hy:Den X.K F y v)(e:tj x y=some b):b=true:=by
 cases x<;>cases y<;>first
  |(cases e;done)
  |(cases e;cases (show _=_ from hx);cases (show _=_ from hy);first | rfl | simp)
  |(cases e;cases (show _=_ from hx.1);cases (show _=_ from hy.1);simp)
  |(cases e;cases (show _=_ from hx);cases (show _=_ from hy.1))
  |(cases e;cases (show _=_ from hx.1);cases (show _=_ from hy))
  |(cases e;obtain⟨_,_,z,_⟩:=hx;subst z;cases (show _=_ from hy);done)
  |(cases e;obtain⟨_,_,z,_⟩:=hx;subst z;cases (show _=_ from hy.1);done)
  |(cases e;obtain⟨_,z,_⟩:=hx;subst z;cases (show _=_ from hy);done)
  |(cases e;obtain⟨_,z,_⟩:=hx;subst z;cases (show _=_ from hy.1);done)
  |(cases e;obtain⟨_,_,z,_⟩:=hy;subst z;cases (show _=_ from hx);done)
  |(cases e;obtain⟨_,_,z,_⟩:=hy;subst z;cases (show _=_ from hx.1);done)
  |(cases e;obtain⟨_,z,_⟩:=hy;subst z;cases (show _=_ from hx);done)
  |(cases e;obtain⟨_,z,_⟩:=hy;subst z;cases (show _=_ from hx.1);done)
  |(cases e;obtain⟨_,_,z,h2,_⟩:=hx;obtain⟨_,_,z',Jw,_⟩:=hy;subst z;cases z';rw[h2] at Jw;cases Jw;done)
  |(cases e;cases (show _=_ from hx);cases (show _=_ from hy);done)
  |(cases e;cases (show _=_ from hx.1);cases (show _=_ from hy.1);done)
theorem iM(I:Inv X pins σ H s)(hs:Same F H):∀(n:Nat) (x y:D) (v:V) (b:Bool),Den X.K F x v→Den X.K F y v→jq n x y=some b→b=true
 |0,x,y,v,b,hx,hy,e=>nR hx hy (by unfold jq at e;exact e)
 |n+1,x,y,v,b,hx,hy,e=>by
  unfold jq at e
  split at e
  ·rename_i xs ys _
   obtain⟨a,vs,rfl,h2,h3,_⟩:=hx
   obtain⟨a',vs',z,k2,k3,_⟩:=hy
   cases z
   rw[h2] at k2
   cases k2
   exact iN (iM I hs _) h3 k3 (by simpa using e)
  ·rename_i xs ys _
   obtain⟨a,vs,rfl,h2,h3,_⟩:=hx
   obtain⟨a',vs',z,k2,k3,_⟩:=hy
   cases z
   rw[h2] at k2
   cases k2
   exact iN (iM I hs _) h3 k3 (by simpa using e)
  ·rename_i xs ys _
   obtain⟨a,rfl,h2,_⟩:=hx
   obtain⟨a',vs',z,k2,k3,_⟩:=hy
   cases z
   have hv:=I.list_inj (Same.seq hs h2) (SqL.of (hs _ _ k2))
   rw[←hv] at k3
   exact iN (iM I hs _) (DenL.ints xs) k3 (by simpa using e)
  ·exact nR hx hy e
theorem Vals.at{vs:List V}{aA:List Value}(r:Vals vs aA){j:Nat}(h:j<aA.toArray.size):∃v,vs[j]? =some v∧RelV v aA.toArray[j]:=by
 have hl:=r.length
 have hj:j<vs.length:=by rw[List.size_toArray] at h;omega
 obtain⟨u,e1,e2⟩:=r.get (List.getElem?_eq_getElem hj)
 refine⟨vs[j],List.getElem?_eq_getElem hj,?_⟩
 have:aA.toArray[j]=u:=by
  have:=(List.getElem?_eq_some_iff.mp e1).2
  simpa using this
 rw[this]
 exact e2
theorem kR{f:D→D→Option Bool}{A:Around}{xs ys:List D}{vs ws:List V}{aA er:List Value}{b:Bool}(h1:DenL X.K F xs vs)(h2:DenL X.K F ys ws)(r1:Vals vs aA)(r2:Vals ws er)(e:lu f xs ys=some b)
 (ih:∀x y v w u t c,Den X.K F x v→Den X.K F y w→RelV v u→RelV w t→f x y=some c→EqAt A s u t c):
 ∀j (k1:j<aA.toArray.size) (k2:j<er.toArray.size),EqAt A s aA.toArray[j] er.toArray[j] (ev f xs ys j):=fun j k1 k2=>by
 obtain⟨v,e1,q1⟩:=Vals.at r1 k1
 obtain⟨w,e2,q2⟩:=Vals.at r2 k2
 obtain⟨x,e3,q3⟩:=h1.at e1
 obtain⟨y,e4,q4⟩:=h2.at e2
 obtain⟨c,hc⟩:=qX e j x y e3 e4
 have:ev f xs ys j=c:=by unfold ev;rw[e3,e4];simp[hc]
 rw[this]
 exact ih x y v w _ _ c q3 q4 q1 q2 hc
theorem og{f:D→D→Option Bool}{A:Around}(hu:A.units<cLine){xs ys:List D}{vs ws:List V}{aA er:List Value}{b:Bool}{a a':Addr}(h1:DenL X.K F xs vs)(h2:DenL X.K F ys ws)(r1:Vals vs aA)(r2:Vals ws er)
 (p1:s.heap.IsList a aA.toArray)(p2:s.heap.IsList a' er.toArray)(e:lu f xs ys=some b)(hr:a=a'→b=true)
 (ih:∀x y v w u t c,Den X.K F x v→Den X.K F y w→RelV v u→RelV w t→f x y=some c→EqAt A.in1 s u t c):EqAll A s (.ref a) (.ref a') b:=by
 have l1:=h1.len
 have l2:=h2.len
 have l3:=r1.length
 have l4:=r2.length
 have hv:=pB e
 have core:RcAt A s (.ref a) (.ref a') b∧RcNeAt A s (.ref a) (.ref a') (!b):=by
  by_cases hl:xs.length=ys.length
  ·have hsz:aA.toArray.size=er.toArray.size:=by rw[List.size_toArray,List.size_toArray];omega
   have hb:b=(List.range aA.toArray.size).all (ev f xs ys):=by
    rw[hv,hl,Nat.min_self,beq_self_eq_true,Bool.and_true]
    congr 2
    rw[List.size_toArray];omega
   rw[hb]
   exact⟨RcAt.lists p1 p2 hsz hu (kR h1 h2 r1 r2 e ih),RcNeAt.lists p1 p2 hsz hu (kR h1 h2 r1 r2 e ih)⟩
  ·have hb:b=false:=by rw[hv,show (xs.length==ys.length)=false from by simpa using hl,Bool.and_false]
   have hsz:(aA.toArray.size !=er.toArray.size)=true:=by
    rw[List.size_toArray,List.size_toArray]
    simp
    omega
   rw[hb]
   exact⟨RcAt.lists_lengths p1 p2 hsz hu,RcNeAt.lists_lengths p1 p2 hsz hu⟩
 refine⟨core.1,core.2,?_⟩
 by_cases hq:a=a'
 ·rw[hr hq]
  subst hq
  exact EqAt.same _
 ·exact EqAt.of_refs hq core.1
theorem uy{f:D→D→Option Bool}{A:Around}(hu:A.units<cLine){xs ys:List D}{vs ws:List V}{aA er:List Value}{b:Bool}{a a':Addr}(h1:DenL X.K F xs vs)(h2:DenL X.K F ys ws)(r1:Vals vs aA)(r2:Vals ws er)
 (p1:s.heap.IsTuple a aA.toArray)(p2:s.heap.IsTuple a' er.toArray)(e:lu f xs ys=some b)(hr:a=a'→b=true)
 (ih:∀x y v w u t c,Den X.K F x v→Den X.K F y w→RelV v u→RelV w t→f x y=some c→EqAt A.in1 s u t c):EqAll A s (.ref a) (.ref a') b:=by
 have l1:=h1.len
 have l2:=h2.len
 have l3:=r1.length
 have l4:=r2.length
 have hb:b=((List.range (min aA.toArray.size er.toArray.size)).all (ev f xs ys)&&aA.toArray.size==er.toArray.size):=by
  rw[pB e,List.size_toArray,List.size_toArray,←l3,←l4,←l1,←l2]
 have core:RcAt A s (.ref a) (.ref a') b∧RcNeAt A s (.ref a) (.ref a') (!b):=by
  rw[hb]
  exact⟨RcAt.tuples p1 p2 hu (kR h1 h2 r1 r2 e ih),RcNeAt.tuples p1 p2 hu (kR h1 h2 r1 r2 e ih)⟩
 refine⟨core.1,core.2,?_⟩
 by_cases hq:a=a'
 ·rw[hr hq]
  subst hq
  exact EqAt.same _
 ·exact EqAt.of_refs hq core.1
theorem pC(I:Inv X pins σ H s)(hs:Same F H):∀(n:Nat) (A:Around) (x y:D) (v w:V) (u t:Value) (b:Bool),A.units+n<cLine→Den X.K F x v→Den X.K F y w→RelV v u→RelV w t→jq n x y=some b→EqAll A s u t b
 |0,A,x,y,v,w,u,t,b,hu,hx,hy,rx,ry,e=>qY I hs (by omega) hx hy rx ry (by unfold jq at e;exact e)
 |n+1,A,x,y,v,w,u,t,b,hu,hx,hy,rx,ry,e=>by
  have GW:A.units<cLine:=by omega
  have LB:A.in1.units+n<cLine:=by show A.units+1+n<cLine;omega
  have hrefl:=iM (F:=F) I hs (n+1) x y
  have ih:∀x y v w u t c,Den X.K F x v→Den X.K F y w→RelV v u→RelV w t→jq n x y=some c→EqAt A.in1 s u t c:=fun x y v w u t c q1 q2 q3 q4 q5=>(pC I hs n A.in1 x y v w u t c LB q1 q2 q3 q4 q5).eq
  have e0:=e
  unfold jq at e
  split at e
  ·rename_i xs ys heq
   cases heq
   obtain⟨a,vs,aA,rfl,E0,h2,h3,r1,p1⟩:=dW I hs hx rx
   obtain⟨a',vs',its',rfl,E2,k2,k3,Ga,FX⟩:=dW I hs hy ry
   exact uy GW h3 k3 r1 Ga p1 FX e (fun z=>by subst z;exact hrefl v b hx (by rw[E0,←E2];exact hy) e0) ih
  ·rename_i xs ys heq
   cases heq
   obtain⟨a,vs,aA,rfl,E0,h2,h3,r1,p1⟩:=dq I hs hx rx
   obtain⟨a',vs',its',rfl,E2,k2,k3,Ga,FX⟩:=dq I hs hy ry
   exact og GW h3 k3 r1 Ga p1 FX e (fun z=>by subst z;exact hrefl v b hx (by rw[E0,←E2];exact hy) e0) ih
  ·rename_i xs ys heq
   cases heq
   obtain⟨a,aA,rfl,E0,h2,r1,p1⟩:=Eg I hs hx rx
   obtain⟨a',vs',its',rfl,E2,k2,k3,Ga,FX⟩:=dq I hs hy ry
   exact og GW (DenL.ints _) k3 r1 Ga p1 FX e (fun z=>by subst z;exact hrefl v b hx (by rw[E0,←E2];exact hy) e0) ih
  ·exact qY I hs GW hx hy rx ry e
end
def nS(x y:D):M D:=match jq 6 x y with | some b=>M.ret (.bl b) | none=>M.stuck
def g7(x y:D):M D:=match jq 6 x y with | some b=>M.ret (.bl (!b)) | none=>M.stuck
def Gd(K:W.Frag):R2:=fun x y H Q=>∃F dx dy b,Same F H∧Den K F dx x∧Den K F dy y∧jq 6 dx dy=some b∧Q (.bl b) H
def Gh(K:W.Frag):R2:=fun x y H Q=>∃F dx dy b,Same F H∧Den K F dx x∧Den K F dy y∧jq 6 dx dy=some b∧Q (.bl (!b)) H
section
variable{X:Cx}{Xw:Nat→Hp→Prop}{a b:Expr}{δa δb:DE}{pos:Pos}
theorem yQ(hu:X.A.units+64<cLine):OpR X (compareOp .Eq) (Gd X.K):=by
 intro pins s σ H x y v u Q I rx ry h
 obtain⟨F,dx,dy,b,hs,hx,hy,e,q⟩:=h
 exact(pC I hs 6 X.A dx dy x y v u b (by omega) hx hy rx ry e).rc _ _ _ _ ⟨.bl b,H,I,rfl,q⟩
theorem Dy(hu:X.A.units+64<cLine):OpR X (compareOp .NotEq) (Gh X.K):=by
 intro pins s σ H x y v u Q I rx ry h
 obtain⟨F,dx,dy,b,hs,hx,hy,e,q⟩:=h
 exact(pC I hs 6 X.A dx dy x y v u b (by omega) hx hy rx ry e).ne _ _ _ _ ⟨.bl (!b),H,I,rfl,q⟩
theorem yR{K:W.Frag}:qF K (Gd K) nS:=fun Xw F H x y dx dy Q s hx hy w=>by
 unfold nS at w
 split at w
 ·rename_i b e
  exact⟨F,dx,dy,b,s,hx,hy,e,WP.now w s rfl⟩
 ·exact w.elim
theorem DC{K:W.Frag}:qF K (Gh K) g7:=fun Xw F H x y dx dy Q s hx hy w=>by
 unfold g7 at w
 split at w
 ·rename_i b e
  exact⟨F,dx,dy,b,s,hx,hy,e,WP.now w s rfl⟩
 ·exact w.elim
theorem zl(hu:X.A.units+64<cLine)(ha:PD X Xw a δa)(hb:PD X Xw b δb):o8 X Xw (.Compare a [.Eq] [b] pos) (c0 (d2 nS δa δb)):=g0 (yQ hu) yR ha hb
theorem fW(hu:X.A.units+64<cLine)(ha:PD X Xw a δa)(hb:PD X Xw b δb):o8 X Xw (.Compare a [.NotEq] [b] pos) (c0 (d2 g7 δa δb)):=g0 (Dy hu) DC ha hb
theorem vk(hu:X.A.units+64<cLine)(ha:PD X Xw a δa)(hb:PD X Xw b δb):PD X Xw (.Compare a [.Eq] [b] pos) (d2 nS δa δb):=mr (yQ hu) yR ha hb
end
def PDW(X:Cx)(Xw:Nat→Hp→Prop)(e:Expr)(δ:DT):Prop:=PW X e (IX X.K Xw δ)
theorem PW.weak{X:Cx}{e:Expr}{t t':TT}(h:PW X e t)(k:∀σ H Q,t' σ H Q→t σ H Q):PW X e t':=fun wh pins s σ H Q I w=>h wh pins s σ H Q I (k σ H Q w)
section
variable{X:Cx}{Xw:Nat→Hp→Prop}{a b c:Expr}{rest:List Expr}{δa δb δc:DE}{τa τb:DT}{pos:Pos}
theorem ja(ha:o8 X Xw a τa):PDW X Xw (.BoolOp .Or [a] pos) τa:=D8 ha
theorem mw(ha:o8 X Xw a τa)(hb:PDW X Xw (.BoolOp .Or (b::rest) pos) τb):PDW X Xw (.BoolOp .Or (a::b::rest) pos) (pq τa τb):=PW.weak (F_ ha hb) fun σ H Q ⟨F,ρ,s,w⟩=>by
 refine⟨F,ρ,s,WPB.mono (WPB.bindB w) fun v H1 ⟨F1,e1,w1⟩=>?_⟩
 cases v with
 |false=>exact⟨F1,ρ,s.ext e1,w1⟩
 |true=>exact w1 _ _ (Ext.refl e1.fh)
theorem PDW.t(h:PDW X Xw a τa):o8 X Xw a τa:=PW.pt h
theorem cS(ha:o8 X Xw a τa):o8 X Xw (.UnaryOp .Not a pos) (cq τa):=PT.weak (D6 ha) fun σ H Q ⟨F,ρ,s,w⟩=>
 ⟨F,ρ,s,WPB.mono (WPB.bindB w) fun v H1 ⟨F1,e1,w1⟩=>w1 _ _ (Ext.refl e1.fh)⟩
def sE:D→M Bool
 | .non=>M.ret false
 | .bl b=>M.ret b
 | .lst ds=>M.ret (!ds.isEmpty)
 | .tup ds=>M.ret (!ds.isEmpty)
 |_=>M.stuck
def b7(δ:DE):DT:=fun ρ=>δ ρ>>=sE
theorem DenL.isEmpty{K:W.Frag}{F:Hp}{ds:List D}{vs:List V}(h:DenL K F ds vs):ds.isEmpty=vs.isEmpty:=by
 have:=h.len
 cases ds<;>cases vs<;>simp_all
theorem cT(ha:PD X Xw a δa)(he:∀whole,isTrue a X.env whole=(do let v←whole;standAt a.pos;holding [v] (truthy v)):=by intro _;rfl):o8 X Xw a (b7 δa):=PT.weak (zm ha he) fun σ H Q ⟨F,ρ,s,w⟩=>by
 refine⟨F,ρ,s,WP.mono (WPB.bind (K:=X.K) w) fun v H1 ⟨F1,d,e1,q1,w1⟩=>?_⟩
 cases d with
 |non=>cases (show _=_ from q1);exact⟨false,rfl,w1 _ _ (Ext.refl e1.fh)⟩
 |bl b=>cases (show _=_ from q1);exact⟨b,rfl,w1 _ _ (Ext.refl e1.fh)⟩
 |lst ds=>
  obtain⟨a,vs,rfl,h2,h3,_⟩:=q1
  exact⟨!ds.isEmpty, .inl ⟨vs,SqL.of (e1.fh _ _ h2),by rw[h3.isEmpty]⟩,w1 _ _ (Ext.refl e1.fh)⟩
 |tup ds=>
  obtain⟨a,vs,rfl,h2,h3,_⟩:=q1
  exact⟨!ds.isEmpty, .inr (.inl ⟨vs,SqT.of (e1.fh _ _ h2),by rw[h3.isEmpty]⟩),w1 _ _ (Ext.refl e1.fh)⟩
 |_=>exact w1.elim
theorem ug{op}(h:PD X Xw a δa):PD X Xw (.BoolOp op [a] pos) δa:=DW h
theorem p8(ha:PD X Xw a δa)(hb:PD X Xw (.BoolOp .And (b::rest) pos) δb):PD X Xw (.BoolOp .And (a::b::rest) pos) (eh δa δb):=PE.weak (DP ha hb) fun σ H Q ⟨F,ρ,s,w⟩=>by
 refine⟨F,ρ,s,WP.mono (WP.bind w) fun v H1 ⟨F1,d,e1,q1,w1⟩=>?_⟩
 cases d with
 |bl k=>
  refine⟨k,q1,?_⟩
  cases k with
  |true=>exact⟨F1,ρ,s.ext e1,w1⟩
  |false=>exact WP.now w1 e1.fh rfl
 |_=>exact w1.elim
theorem DM(ha:PD X Xw a δa):PD X Xw (.UnaryOp .Not a pos) (BQ δa):=PE.weak (DV ha) fun σ H Q ⟨F,ρ,s,w⟩=>by
 refine⟨F,ρ,s,WP.mono (WP.bind w) fun v H1 ⟨F1,d,e1,q1,w1⟩=>?_⟩
 cases d with
 |bl k=>exact⟨k,q1,WP.now w1 e1.fh rfl⟩
 |_=>exact w1.elim
def s8(p q:Int→Int→Bool)(a b c:DE):DE:=fun ρ=>a ρ>>=fun x=>b ρ>>=fun y=>match x,y with
 | .int i, .int j=>if p i j then c ρ>>=fun z=>gI (fun i j=> .bl (q i j)) y z else M.ret (.bl false)
 |_,_=>M.stuck
theorem o3{p q:Int→Int→Bool}:∀σ H Q,tD X.K Xw (s8 p q δa δb δc) σ H Q→ux (wY fun i j=> .bl (p i j)) (wY fun i j=> .bl (q i j)) (tD X.K Xw δa) (tD X.K Xw δb) (tD X.K Xw δc) σ H Q:=fun σ H Q ⟨F,ρ,s,w⟩=>by
 refine⟨F,ρ,s,WP.mono (WP.bind w) fun v H1 ⟨F1,d,e1,q1,w1⟩=>?_⟩
 refine⟨F1,ρ,s.ext e1,WP.mono (WP.bind w1) fun u H2 ⟨F2,d',e2,q2,w2⟩=>?_⟩
 cases d with
 |int i=>
  cases d' with
  |int j=>
   refine⟨i,j,q1,q2,p i j,rfl,?_⟩
   have w2:WP X.K Xw F2 H2 (if p i j then δc ρ>>=fun z=>gI (fun i j=> .bl (q i j)) (.int j) z else M.ret (.bl false)) Q:=w2
   cases hp:p i j with
   |false=>
    rw[hp] at w2
    exact WP.now w2 e2.fh rfl
   |true=>
    rw[hp] at w2
    refine⟨F2,ρ,(s.ext e1).ext e2,WP.mono (WP.bind w2) fun u' H3 ⟨F3,Kj,e3,q3,w3⟩=>?_⟩
    exact ve (K:=X.K) (gv:=fun i j=> .bl (q i j)) (gd:=fun i j=> .bl (q i j)) (fun _ _ _=>rfl) Xw F3 H3 u u' (.int j) Kj Q e3.fh q2 q3 w3
  |_=>exact w2.elim
 |_=>exact w2.elim
theorem yV{op t8:CmpOp}{p q:Int→Int→Bool}(ho:OpR X (compareOp op) (wY fun i j=> .bl (p i j)))(nV:OpR X (compareOp t8) (wY fun i j=> .bl (q i j)))(ha:PD X Xw a δa)(hb:PD X Xw b δb)(hc:PD X Xw c δc)
 (hm:lastMarks [op,t8] [b,c]=false:=by with_unfolding_all rfl):PD X Xw (.Compare a [op,t8] [b,c] pos) (s8 p q δa δb δc):=PE.weak (za ho nV ha hb hc hm) o3
theorem zj{op t8:CmpOp}{p q:Int→Int→Bool}(ho:OpR X (compareOp op) (wY fun i j=> .bl (p i j)))(nV:OpR X (compareOp t8) (wY fun i j=> .bl (q i j)))(ha:PD X Xw a δa)(hb:PD X Xw b δb)(hc:PD X Xw c δc)
 (hm:lastMarks [op,t8] [b,c]=false:=by with_unfolding_all rfl):o8 X Xw (.Compare a [op,t8] [b,c] pos) (c0 (s8 p q δa δb δc)):=PT.weak (zk ho nV ha hb hc hm) fun σ H Q ⟨F,ρ,s,w⟩=>by
 refine o3 σ H _ ⟨F,ρ,s,WP.mono (WPB.bind w) fun v H1 ⟨F1,d,e1,q1,w1⟩=>?_⟩
 cases d with
 |bl k=>exact⟨k,q1,w1 _ _ (Ext.refl e1.fh)⟩
 |_=>exact w1.elim
def qG(K:W.Frag)(r:List V→Hp→VK→Prop)(g:List D→M D):Prop:=∀(Xw:Nat→Hp→Prop) (F H:Hp) (vs:List V) (ds:List D) (Q:VK),Same F H→DenL K F ds vs→WP K Xw F H (g ds) Q→r vs H Q
variable{x:Str}{p:Pos}{e:Expr}{es:List Expr}{δs:DA}{id T:String}{r:List V→Hp→VK→Prop}{g:List D→M D}
theorem zR(h:qG X.K r g):∀σ H Q,tD X.K Xw (dA g δs) σ H Q→IV r (Kb X.K Xw δs) σ H Q:=fun σ H Q ⟨F,ρ,s,w⟩=>
 ⟨F,ρ,s,WPL.mono (WP.bindL w) fun vs H1 ⟨F1,ds,e1,q1,w1⟩=>h Xw F1 H1 vs ds Q e1.fh q1 w1⟩
theorem dO(hc:CallR X (.builtin id) r)(hd:qG X.K r g)(hg:Gl X x)(hm:X.mg x=none)(hv:bootBuiltins x=some (.builtin id))(ha:k7 X Xw (e::es) δs)(hn:x≠"__name__":=by decide)(pE:(x==("__debug__":Str))=false:=by decide)
 (he:starEach (e::es) X.env=(false,eval e X.env)::starEach es X.env:=by rfl)(nW:(backTo pos (starEach es X.env)).any (·.1)=false:=by rfl):PD X Xw (.Call (.Name x p) (e::es) [] pos) (dA g δs):=
 PE.weak (y_ hc hg hm hv ha hn pE he nW) (zR hd)
theorem wN(hc:CallR X (.type T) r)(hd:qG X.K r g)(hg:Gl X x)(hm:X.mg x=none)(hv:bootBuiltins x=some (.type T))(ha:k7 X Xw (e::es) δs)(hn:x≠"__name__":=by decide)(pE:(x==("__debug__":Str))=false:=by decide)
 (he:starEach (e::es) X.env=(false,eval e X.env)::starEach es X.env:=by rfl)(nW:(backTo pos (starEach es X.env)).any (·.1)=false:=by rfl):PD X Xw (.Call (.Name x p) (e::es) [] pos) (dA g δs):=
 PE.weak (wQ hc hg hm hv ha hn pE he nW) (zR hd)
def a_:List D→M D
 |[.lst ds]=>M.ret (.int ds.length)
 |[.tup ds]=>M.ret (.int ds.length)
 |[.str x]=>M.ret (.int x.length)
 |[.scr ns]=>M.ret (.int ns.length)
 |_=>M.stuck
theorem wo:qG X.K (fun xs H Q=>(∃p ys,xs=[.ref p]∧(SqL X.K H p ys∨SqT X.K H p ys)∧Q (.int ys.length) H)∨∃z,xs=[.str z]∧z.length≤sizeLine∧Q (.int z.length) H) a_:=fun Xw F H vs ds Q s h w=>by
 unfold a_ at w
 split at w
 ·obtain⟨v,rfl,h1⟩:=h.one
  obtain⟨a,vs,rfl,h2,h3,_⟩:=h1
  exact .inl ⟨a,vs,rfl, .inl (SqL.of (s _ _ h2)),by rw[←h3.len];exact WP.now w s rfl⟩
 ·obtain⟨v,rfl,h1⟩:=h.one
  obtain⟨a,vs,rfl,h2,h3,_⟩:=h1
  exact .inl ⟨a,vs,rfl, .inr (SqT.of (s _ _ h2)),by rw[←h3.len];exact WP.now w s rfl⟩
 ·obtain⟨v,rfl,h1⟩:=h.one
  cases (show _=_ from h1.1)
  exact .inr ⟨_,rfl,by have:=h1.2;have:=cf;omega,WP.now w s rfl⟩
 ·obtain⟨v,rfl,h1⟩:=h.one
  obtain⟨a,rfl,h2,_⟩:=h1
  exact .inl ⟨a,_,rfl, .inl (Same.seq s h2),by rw[List.length_map];exact WP.now w s rfl⟩
 ·exact w.elim
theorem bE(hg:Gl X "len")(hm:X.mg "len"=none)(ha:k7 X Xw [e] δs)(he:starEach [e] X.env=[(false,eval e X.env)]:=by rfl):PD X Xw (.Call (.Name "len" p) [e] [] pos) (dA a_ δs):=
 dO (pj.or pk) wo hg hm PySem.boot_len ha (by decide) (by decide) he rfl
def xu:List D→M D
 |[.int i]=>M.ret (.int (if i<0 then -i else i))
 |_=>M.stuck
def tO:List D→M D
 |[.int i, .int j]=>M.ret (.int (if j>i then j else i))
 |_=>M.stuck
def wy:List D→M D
 |[.int i, .int j]=>M.ret (.int (if j<i then j else i))
 |_=>M.stuck
theorem yU(hg:Gl X "abs")(hm:X.mg "abs"=none)(ha:k7 X Xw [e] δs)(hb:bootBuiltins "abs"=some (.builtin "abs"))(he:starEach [e] X.env=[(false,eval e X.env)]:=by rfl):PD X Xw (.Call (.Name "abs" p) [e] [] pos) (dA xu δs):=
 dO xD (fun Xw F H vs ds Q s h w=>by
  unfold xu at w
  split at w
  ·obtain⟨v,rfl,h1⟩:=h.one
   cases (show _=_ from h1)
   exact⟨_,rfl,WP.now w s rfl⟩
  ·exact w.elim) hg hm hb ha (by decide) (by decide) he rfl
end
theorem WP.xw{K:W.Frag}{Xw Xw':Nat→Hp→Prop}{F H:Hp}{m:M D}{Q:VK}(h:WP K Xw F H m Q)(k:∀n H,Xw n H→Xw' n H):WP K Xw' F H m Q:=by
 match m,h with
 |none,h=>exact h
 |some (.ok d),h=>exact h
 |some (.ex n),h=>exact fun F' H' e=>k n H' (h F' H' e)
theorem dD{X:Cx}{Xw:Nat→Hp→Prop}{st:Stmt}{τ:DS}(h:iI X.nox (fun _ _=>False) st τ):iI X Xw st (fun ρ=>noex (τ ρ)):=fun F₀ H₀ pins s σ H D I ⟨F,ρ,S,w⟩=>by
 have w:WPS X.K Xw F₀ H₀ (noex (τ ρ)) D:=w
 have w':tS X.K (fun _ _=>False) F₀ H₀ τ D σ H:=by
  refine⟨F,ρ,S,?_⟩
  rcases(τ ρ).cs with e | ⟨n,e⟩ | ⟨o,e⟩
  ·rw[e] at w;exact w.elim
  ·rw[e] at w;exact w.elim
  ·rw[e] at w⊢
   cases o with
   |nx ρ'=>exact w
   |rt d=>exact w
 refine wpAny_mono (h F₀ H₀ pins s σ H D (I.wish _) w') (fun f s' q=>SP.unwish q) fun _ _ z=>z.elim
def EX(cv:Nat→Value)(Xw:Nat→Hp→Prop):XK:=fun c _ H=>∃n,c=cv n∧Xw n H
def EB(K:W.Frag)(cv:Nat→Value)(k:Nat)(f:List D→M D):Sp:=fun vs H Q E=>∃F ds,Same F H∧DenL K F ds vs∧vs.length=k∧WP K (fun n H'=>E (cv n) none H') F H (f ds) Q
def b_(n:Nat)(τ:DS):List D→M D:=fun ds=>τ (ds.map (fun d=>some (Sl.fz d))++List.replicate (n - ds.length) none)>>=fun o=>match o with
 | .nx _=>M.ret .non
 | .rt d=>M.ret d
section
variable{P:Program}{w:World}{K:W.Frag}{mg:Str→Option Value}{base:Heap}{CX:sS}{cv:Nat→Value}
theorem E3{x qual:Str}{st:Stmt}{f:Addr}{fd:FuncData}{N ps:List Str}{k:Nat}{τ:DS}(Fn:Fun K x qual st f fd)(S:FnScope N ps (ag st))
 (rh:∀(cu:Value) (A:Around) (outer:List Env) (s:Shared) (H:Hp) (E:XK),Room k (A.deeper (envOfC qual (ag st) s.heap.objs.size f cu))→
  PSDs (fF CX P w K mg base N qual (ag st) f cu A outer s H E) (fun n H'=>E (cv n) none H') (bI st) τ):FnOk P w K mg base CX (k+1) f fd ps (EB K cv ps.length (b_ N.length τ)):=by
 obtain⟨oc,od,kV,doc,pm,an,cu,ct,Cg,rfl,lk,uV⟩:=Fn.ex
 refine E4 lk uV S (fun vs H Q E ⟨_,_,_,_,hl,_⟩=>hl) fun A outer s H vs Q E hr B8=>?_
 obtain⟨F,ds,fh,hd,hl,hw⟩:=B8
 refine⟨_,rh cu A outer s H E hr F H,F,ds.map (fun d=>some (Sl.fz d))++List.replicate (N.length - ds.length) none,⟨Ext.refl fh,⟨fh,fun i sl e=>?_⟩,?_,fun i c a e=>?_,fun i j c c' a e=>?_⟩,?_⟩
 ·have hlen:=hd.len
  by_cases hi:i<ds.length
  ·rw[List.getElem?_append_left (by simpa using hi),List.getElem?_map] at e
   cases q:ds[i]? with
   |none=>rw[q] at e;cases e
   |some d=>
    rw[q] at e
    cases e
    obtain⟨v,e1,e2⟩:=hd.get q
    refine⟨v,?_,e2⟩
    unfold L2.start
    rw[List.getElem?_append_left (by simp;omega),List.getElem?_map,e1]
    rfl
  ·rw[List.getElem?_append_right (by simpa using hi),List.getElem?_replicate] at e
   split at e<;>cases e
 ·have hlen:=hd.len
  unfold L2.start
  simp[hlen]
 ·exfalso
  by_cases hi:i<ds.length
  ·rw[List.getElem?_append_left (by simpa using hi),List.getElem?_map] at e
   cases q:ds[i]? with
   |none=>rw[q] at e;cases e
   |some d=>rw[q] at e;cases e
  ·rw[List.getElem?_append_right (by simpa using hi),List.getElem?_replicate] at e
   split at e<;>cases e
 ·exfalso
  by_cases hi:i<ds.length
  ·rw[List.getElem?_append_left (by simpa using hi),List.getElem?_map] at e
   cases q:ds[i]? with
   |none=>rw[q] at e;cases e
   |some d=>rw[q] at e;cases e
  ·rw[List.getElem?_append_right (by simpa using hi),List.getElem?_replicate] at e
   split at e<;>cases e
 ·have hw:WP K (fun n H'=>E (cv n) none H') F H (τ (ds.map (fun d=>some (Sl.fz d))++List.replicate (N.length - ds.length) none)>>=fun o=>match o with | .nx _=>M.ret .non | .rt d=>M.ret d) Q:=hw
  rcases(τ (ds.map (fun d=>some (Sl.fz d))++List.replicate (N.length - ds.length) none)).cs with e | ⟨n,e⟩ | ⟨o,e⟩
  ·rw[e] at hw;exact hw.elim
  ·rw[e] at hw⊢;exact hw
  ·rw[e] at hw⊢
   cases o with
   |nx ρ'=>exact fun σ' F' H' s'=>hw .non H' F' s'.ext rfl
   |rt d=>exact fun v F' H' e' q=>hw v H' F' e' q
end
section
variable{X:Cx}{Xw:Nat→Hp→Prop}{CX:sS}{cv:Nat→Value}{k m:Nat}{f:Addr}{fd:FuncData}{ps:List Str}{g:List D→M D}{x:Str}{p pos:Pos}{e:Expr}{es:List Expr}{δs:DA}
theorem A5(F:FnOk X.prog X.w X.K X.mg X.base CX k f fd ps (EB X.K cv m g))(hr:Room k X.A)(hg:Gl X x)(hm:X.mg x=some (.ref f))(hk:PySem.W.keepIn X.K (.ref f)=true)(hb:Binds X.K fd ps [])(hx:Passes CX X (EX cv Xw))
 (ha:k7 X Xw (e::es) δs)(hl:(e::es).length=m)(pE:(x==("__debug__":Str))=false:=by decide)(he:starEach (e::es) X.env=(false,eval e X.env)::starEach es X.env:=by rfl)(nW:(backTo pos (starEach es X.env)).any (·.1)=false:=by rfl):
 PD X Xw (.Call (.Name x p) (e::es) [] pos) (fun ρ=>δs ρ>>=fun ds=>if ds.length=m then g ds else M.stuck):=PE.weak (Bc F hr hg hm hk hb .nil hx ha pE he nW) fun σ H Q ⟨F,ρ,s,w⟩=>by
 refine⟨F,ρ,s,WPL.mono (WP.bindL w) fun vs H1 ⟨F1,ds,e1,q1,w1⟩=>?_⟩
 split at w1
 ·rename_i yj
  refine⟨F1,ds,e1.fh,by simpa using q1,by rw[List.append_nil,←q1.len];exact yj,WP.xw w1 fun n H h=>⟨n,rfl,h⟩⟩
 ·exact w1.elim
theorem vm{x:Str}{d:D}{v:V}{u:Value}(hg:Gl X x)(hm:X.mg x=some u)(r:RelV v u)(hd:∀F,Den X.K F d v)(pE:(x==("__debug__":Str))=false:=by decide):PD X Xw (.Name x pos) (dC d):=
 fo (Bf hg hm r pE) hd
end
theorem obj_some{P:Program}{w:World}{H:Hp}{h:Heap}{a:Addr}{o:HO}(x:ObjOk P w H h a o):∃ob,h.get? a=some ob:=by
 cases o with
 |lst xs=>obtain⟨_,_,_,_,e⟩:=x;exact⟨_,e⟩
 |tup xs=>obtain⟨_,_,_,ob,e,_⟩:=x;exact⟨_,e⟩
 |dK aw=>obtain⟨_,_,_,_,o,_,_,e,_⟩:=x;exact⟨_,e⟩
 |dT aw=>obtain⟨_,_,_,_,o,_,_,e,_⟩:=x;exact⟨_,e⟩
 |set S n=>obtain⟨o,_,_,_,e,_⟩:=x;exact⟨_,e⟩
 |ins C dx fs=>obtain⟨_,_,_,e,_⟩:=x;exact⟨_,e⟩
 |own y=>obtain⟨_,e⟩:=x;exact⟨_,e⟩
 |xd fs=>obtain⟨_,⟨_,_,_,e,_⟩,_⟩:=x;exact⟨_,e⟩
 |rng lo hi=>obtain⟨_,_,_,e⟩:=x;exact⟨_,e⟩
 |frz ob u=>obtain⟨e,_⟩:=x;exact⟨_,e⟩
 |tbl ps=>exact⟨_,(show h.get? a=some _ from x)⟩
 |met f y=>exact⟨_,(show h.get? a=some _ from x)⟩
 |ext φ=>obtain⟨_,⟨_,e⟩,_⟩:=x;exact⟨_,e⟩
def nv(P:Program)(w:World)(cv:Nat→Value):sS:=fun outer H s E e s'=>∃(ea:Addr) (n:Nat) (a0:Value) (B:Heap) (H':Hp),e= .ref ea∧s'.os=s.os∧AllBare s'.gens∧HOk P w H' s'.heap∧Un (kS outer) [] H H' s.heap s'.heap∧
 Heap.FlyingW B outer ea (cv n) a0 s'.heap∧(∀b o,s'.heap.get? b=some o→(H' b≠none∨(s.heap.get? b).isSome=true)→b∉kS outer→B.get? b=some o)∧E (cv n) none H'
section
variable{P:Program}{w:World}{fs:List Addr}{H₀ H:Hp}{h₀ h h':Heap}
theorem BJ(u:Un fs [] H₀ H h₀ h)(ka:∀b o,h.get? b=some o→b∉fs→(H b≠none∨(h₀.get? b).isSome=true)→h'.get? b=some o)(kb:∀b o,h.get? b=some o→b∈fs→∃sl,h'.get? b=some {o with slots:=sl}):Un fs [] H₀ H h₀ h' where
 keep:=fun b o e n hb hx=>ka b o (u.keep b o e n hb hx) hb (.inr (by rw[e];rfl))
 slot:=fun b o e n hb hx=>by
  obtain⟨sl,q⟩:=u.slot b o e n hb hx
  obtain⟨Ei,q'⟩:=kb b _ q hb
  exact⟨Ei,q'⟩
 free:=u.free
 there:=fun b o e hx=>by
  obtain⟨o',q⟩:=u.there b o e hx
  by_cases hb:b∈fs
  ·obtain⟨sl,q'⟩:=kb b _ q hb
   exact⟨_,q'⟩
  ·exact⟨o',ka b o' q hb (.inr (by rw[e];rfl))⟩
 tups:=u.tups
 frzs:=u.frzs
 tbls:=u.tbls
theorem ym(x:HOk P w H h)(hf:∀b∈fs,H b=none)(ka:∀b o,h.get? b=some o→b∉fs→H b≠none→h'.get? b=some o):HOk P w H h':=fun a o e=>by
 refine(x a o e).stay (fun b u hb q=>ka b u q (fun z=>?_) ?_) (fun _ q=>q) fun _ _ q=>q
 ·have hz:=hf b z
  rcases hb with rfl | hb
  ·rw[hz] at e;cases e
  ·rw[hz] at hb;cases hb
 ·rcases hb with rfl | hb
  ·rw[e];exact fun z=>nomatch z
  ·rw[hb];exact fun z=>nomatch z
end
section
variable{P:Program}{w:World}{K:W.Frag}{mg:Str→Option Value}{base:Heap}{N:List Str}{qual:Str}{scope:Scope}{f:Addr}{cd:Value}{A:Around}{outer:List Env}{s₀:Shared}{H₀:Hp}{E:XK}{cv:Nat→Value}
theorem a8:Passes (nv P w cv) (fF (nv P w cv) P w K mg base N qual scope f cd A outer s₀ H₀ E) (EX cv fun n H'=>E (cv n) none H'):=by
 intro pins σ H s e s' I ⟨ea,n,a0,B,H',he,yn,hg,hok,un,Js,hB,m,hm,hE⟩
 subst he
 have CU:((fF (nv P w cv) P w K mg base N qual scope f cd A outer s₀ H₀ E)).env.locals=s₀.heap.objs.size:=rfl
 have Ay:kS ((fF (nv P w cv) P w K mg base N qual scope f cd A outer s₀ H₀ E)).stack=s₀.heap.objs.size::kS outer:=rfl
 show wpAny (model P w) (A.deeper (envOfC qual scope s₀.heap.objs.size f cd)) (leaving (envOfC qual scope s₀.heap.objs.size f cd) (.ref ea)) _ _ s'
 refine wpAny_leaves_onW (base:=B) (outer:=outer) (L:=s₀.heap.objs.size) I.ok.frames rfl Js fun h' CH ups=>?_
 have B3:∀b∈kS ((fF (nv P w cv) P w K mg base N qual scope f cd A outer s₀ H₀ E)).stack,H' b=none:=fun b hb=>by
  obtain⟨o,ho⟩:∃o,s.heap.get? b=some o:=by
   obtain⟨_,o,ho,_⟩:=I.stack.mem hb
   exact⟨o,ho⟩
  exact un.free b o ho (I.stkFree b hb) (by simp)
 have B_:∀b o,s'.heap.get? b=some o→b∉kS ((fF (nv P w cv) P w K mg base N qual scope f cd A outer s₀ H₀ E)).stack→(H' b≠none∨(s.heap.get? b).isSome=true)→h'.get? b=some o:=fun b o e hb hc=>CH.1 b o (hB b o e hc hb)
 have unA:Un (kS outer) [] H₀ H' s₀.heap s'.heap:=by
  have u1:Un (kS outer) [] H₀ H s₀.heap s.heap:=I.base
  refine⟨fun b o e nn hb hx=>?_,fun b o e nn hb hx=>?_,fun b o e nn hx=>?_,fun b o e hx=>?_,fun b xs q=>un.tups b xs (u1.tups b xs q),fun b o u q=>un.frzs b o u (u1.frzs b o u q),fun b ps q=>?_⟩
  ·refine un.keep b o (u1.keep b o e nn hb hx) (u1.free b o e nn hx) (fun z=>?_) (by simp)
   rw[Ay] at z
   rcases List.mem_cons.mp z with z | z
   ·exact absurd (Heap.lt_size e) (by rw[z];exact Nat.lt_irrefl _)
   ·exact hb z
  ·obtain⟨sl,q⟩:=u1.slot b o e nn hb hx
   obtain⟨Ei,q'⟩:=un.slot b _ q (u1.free b o e nn hx) (by rw[Ay];exact List.mem_cons_of_mem _ hb) (by simp)
   exact⟨Ei,q'⟩
  ·obtain⟨o',q⟩:=u1.there b o e hx
   exact un.free b o' q (u1.free b o e nn hx) (by simp)
  ·obtain⟨o',q⟩:=u1.there b o e hx
   exact un.there b o' q (by simp)
  ·obtain⟨m1,q1⟩:=u1.tbls b ps q
   obtain⟨m2,q2⟩:=un.tbls b _ q1
   exact⟨m1++m2,by rw[q2,Array.append_assoc]⟩
 have JZ:∀b,(s₀.heap.get? b).isSome=true→(s.heap.get? b).isSome=true:=fun b hb=>by
  obtain⟨o,ho⟩:=Option.isSome_iff_exists.mp hb
  obtain⟨o',q⟩:=(show Un (kS outer) [] H₀ H s₀.heap s.heap from I.base).there b o ho (by simp)
  rw[q];rfl
 have IA:∀b,(s₀.heap.get? b).isSome=true→b≠s₀.heap.objs.size:=fun b hb z=>by
  obtain⟨o,ho⟩:=Option.isSome_iff_exists.mp hb
  exact absurd (Heap.lt_size ho) (by rw[z];exact Nat.lt_irrefl _)
 have FQ:∀b,b∉kS outer→(H' b≠none∨(s₀.heap.get? b).isSome=true)→b∉kS ((fF (nv P w cv) P w K mg base N qual scope f cd A outer s₀ H₀ E)).stack:=fun b hb hc z=>by
  rcases hc with hc | hc
  ·exact hc (B3 b z)
  ·rw[Ay] at z
   rcases List.mem_cons.mp z with z | z
   ·exact IA b hc z
   ·exact hb z
 refine⟨ea,n,a0,B,H',rfl,yn.trans I.os,hg,ym hok B3 (fun b o e hb hc=>B_ b o e hb (.inl hc)),BJ unA (fun b o e hb hc=>B_ b o e (FQ b hb hc) (hc.imp id (JZ b))) (fun b o e hb=>?_),CH,fun b o e hc hb=>?_,?_⟩
 ·obtain⟨_,o',nV,hd⟩:=Js.2.2.1.mem (show b∈kS ((fF (nv P w cv) P w K mg base N qual scope f cd A outer s₀ H₀ E)).stack by rw[Ay];exact List.mem_cons_of_mem _ hb)
  rw[e] at nV
  cases nV
  exact ups b o e hd
 ·have KH:=FQ b hb hc
  obtain⟨o',nV⟩:∃o',s'.heap.get? b=some o':=by
   rcases hc with hc | hc
   ·cases q:H' b with
    |none=>exact absurd q hc
    |some u=>
     exact obj_some (hok b u q)
   ·obtain⟨o1,h1⟩:=Option.isSome_iff_exists.mp hc
    exact unA.there b o1 h1 (by simp)
  have:=hB b o' nV (hc.imp id (JZ b)) KH
  rw[CH.1 b o' this] at e
  cases e
  exact this
 ·rw[hm];exact hE
end
section
variable{X:Cx}{Xw:Nat→Hp→Prop}{cv:Nat→Value}{n:Nat}{C:Addr}{x:Str}{np bf pos:Pos}{e:Expr}{es:List Expr}{δs:DA}{bm:List Value}{B newId Ir:String}
end
def Ca:D→Option String
 | .non=>some "NoneType"
 | .bl _=>some "bool"
 | .int _=>some "int"
 | .str _=>some "str"
 | .tup _=>some "tuple"
 | .lst _=>some "list"
 |_=>none
def Dc(k T:String):Option Bool:=if T="str"∨T="int"∨T="bool"∨T="tuple"∨T="list" then some (decide (k=T)||(decide (k="bool")&&decide (T="int"))) else none
def fY:List D→M D
 |[d, .raw (.ty T)]=>match Ca d with
  |some k=>match Dc k T with
   |some b=>M.ret (.bl b)
   |none=>M.stuck
  |none=>M.stuck
 |_=>M.stuck
theorem Dp{K:W.Frag}{k T:String}{b:Bool}(hk:k="NoneType"∨k="bool"∨k="int"∨k="str"∨k="tuple"∨k="list")(h:Dc k T=some b):PySem.W.kitOne K (.type k) (.type T)=some b:=by
 unfold Dc at h
 split at h
 ·rename_i hT
  cases h
  rcases hk with rfl | rfl | rfl | rfl | rfl | rfl<;>rcases hT with rfl | rfl | rfl | rfl | rfl<;>with_unfolding_all rfl
 ·cases h
section
variable{X:Cx}{Xw:Nat→Hp→Prop}{a b e e2:Expr}{es:List Expr}{δa δb:DE}{δs:DA}{pos p:Pos}
def Ge(K:W.Frag):List V→Hp→VK→Prop:=fun xs H Q=>∃x T t b,xs=[x, .ty T]∧TyOf K H x t∧PySem.W.kitOne K t (.type T)=some b∧Q (.bl b) H
theorem xE:CallR X (.builtin "isinstance") (Ge X.K):=by
 intro pins s σ H xs us Q I r h
 obtain⟨x,T,t,b,rfl,ty,e,q⟩:=h
 obtain⟨u,w',rfl,r1,r2⟩:=vals2 r
 cases (show w'=_ from r2)
 exact we I r1 ty e fun tk=>⟨.bl b,H,I.tok tk,rfl,q⟩
theorem zW{K:W.Frag}{F H:Hp}{d:D}{v:V}{k:String}(s:Same F H)(h:Den K F d v)(hk:Ca d=some k):TyOf K H v (.type k)∧(k="NoneType"∨k="bool"∨k="int"∨k="str"∨k="tuple"∨k="list"):=by
 cases d with
 |non=>cases hk;cases (show _=_ from h);exact⟨.non, .inl rfl⟩
 |bl x=>cases hk;cases (show _=_ from h);exact⟨.bl x, .inr (.inl rfl)⟩
 |int x=>cases hk;cases (show _=_ from h);exact⟨.int x, .inr (.inr (.inl rfl))⟩
 |str x=>cases hk;cases (show _=_ from h.1);exact⟨.str x, .inr (.inr (.inr (.inl rfl)))⟩
 |tup x=>cases hk;obtain⟨a,vs,rfl,h2,_⟩:=h;exact⟨.tup (s _ _ h2), .inr (.inr (.inr (.inr (.inl rfl))))⟩
 |lst x=>cases hk;obtain⟨a,vs,rfl,h2,_⟩:=h;exact⟨.lst (s _ _ h2), .inr (.inr (.inr (.inr (.inr rfl))))⟩
 |_=>cases hk
theorem wd{K:W.Frag}:qG K (Ge K) fY:=fun Xw F H vs ds Q s h w=>by
 unfold fY at w
 split at w
 ·rename_i d T
  obtain⟨v,v',rfl,h1,h2⟩:=h.two
  cases (show _=_ from h2)
  split at w
  ·rename_i k hk
   split at w
   ·rename_i b hb
    obtain⟨ty,xo⟩:=zW s h1 hk
    exact⟨v,T, .type k,b,rfl,ty,Dp xo hb,WP.now w s rfl⟩
   ·exact w.elim
  ·exact w.elim
 ·exact w.elim
theorem jF(hg:Gl X "isinstance")(hm:X.mg "isinstance"=none)(hb:bootBuiltins "isinstance"=some (.builtin "isinstance"))(ha:k7 X Xw [e,e2] δs)(he:starEach [e,e2] X.env=(false,eval e X.env)::starEach [e2] X.env:=by rfl)
 (nW:(backTo pos (starEach [e2] X.env)).any (·.1)=false:=by rfl):PD X Xw (.Call (.Name "isinstance" p) [e,e2] [] pos) (dA fY δs):=
 dO xE wd hg hm hb ha (by decide) (by decide) he nW
theorem oO{x:Str}{T:String}(hg:Gl X x)(hm:X.mg x=none)(hv:bootBuiltins x=some (.type T))(hn:x≠"__name__":=by decide)(hd:(x==("__debug__":Str))=false:=by decide):PD X Xw (.Name x pos) (dC (.raw (.ty T))):=
 fo (v:= .ty T) (Bb hg hm hv (show RelV (.ty T) (.type T) from rfl) hn hd) fun _=>rfl
def bools:List D→Option (List Bool)
 |[]=>some []
 | .bl b::r=>(bools r).map (b:: ·)
 |_=>none
def allM:List D→M D
 |[.lst ds]=>match bools ds with
  |some bs=>M.ret (.bl (bs.all id))
  |none=>M.stuck
 |_=>M.stuck
theorem nH{K:W.Frag}{F:Hp}:∀{ds:List D}{vs:List V}{bs:List Bool},bools ds=some bs→DenL K F ds vs→vs=bs.map V.bl
 |[],_,_,e,h=>by cases e;exact h
 | .bl b::r,_,_,e,⟨v,r',h1,h2,h3⟩=>by
   unfold bools at e
   cases q:bools r with
   |none=>rw[q] at e;cases e
   |some bs=>rw[q] at e;cases e;subst h1;rw[nH q h3,show v= .bl b from h2];rfl
 | .non::_,_,_,e,_=>by cases e
 | .int _::_,_,_,e,_=>by cases e
 | .str _::_,_,_,e,_=>by cases e
 | .raw _::_,_,_,e,_=>by cases e
 | .exc _::_,_,_,e,_=>by cases e
 | .scr _::_,_,_,e,_=>by cases e
 | .tup _::_,_,_,e,_=>by cases e
 | .lst _::_,_,_,e,_=>by cases e
theorem vI:∀{bs:List Bool}{aA:List Value},Vals (bs.map V.bl) aA→aA=bs.map Value.bool
 |[],_,r=>by cases r;rfl
 |b::bs,_,r=>by
  cases r with
  |cons r1 r2=>cases (show _=_ from r1);rw[vI r2];rfl
def IG:List V→Hp→VK→Prop:=fun xs H Q=>∃(a:Addr) (bs:List Bool),xs=[.ref a]∧H a=some (.lst (bs.map V.bl))∧Q (.bl (bs.all id)) H
theorem all_range{bs:List Bool}:(List.range bs.length).all (fun i=>bs.getD i false)=bs.all id:=by
 induction bs with
 |nil=>rfl
 |cons b bs ih=>
  rw[List.length_cons,List.range_succ_eq_map,List.all_cons,List.all_map,List.all_cons]
  congr 1
theorem vR(hc:X.calm=true):CallR X (.builtin "all") IG:=by
 intro pins s σ H xs us Q I r h
 obtain⟨a,bs,rfl,hH,q⟩:=h
 obtain⟨u,rfl,r1⟩:=vals1 r
 cases (show u=_ from r1)
 obtain⟨aA,r2,pl,hz⟩:=I.list (SqL.of (K:=X.K) hH)
 obtain rfl:=vI r2
 have dB:a≠s.heap.objs.size:=Nat.ne_of_lt (I.hok.lt hH)
 refine call_all_walk (wpAny_pyIter_list pl.isList ?_)
 refine⟨s.heap.objs.size,_,_,_,_,_,fun i=>bs.getD i false,rfl,Walks.list (A:=X.A.in1) (show X.A.in1.handled=none from I.ok.hd hc) s.heap.objs.size a dB (bs.map Value.bool).toArray,⟨⟨_,Heap.get?_push_size _ rfl,rfl,rfl⟩,Heap.IsList.at pl.isList fun o e=>Heap.get?_push_of_some _ e⟩,?_,fun h' tk k=>?_⟩
 ·intro i v s' Q' E' hv hq
  have hv:(bs.map Value.bool).toArray[i]? =some v:=hv
  rw[List.getElem?_toArray,List.getElem?_map] at hv
  cases q':bs[i]? with
  |none=>rw[q'] at hv;cases hv
  |some b=>
   rw[q'] at hv
   cases hv
   have:bs.getD i false=b:=by rw[List.getD_eq_getElem?_getD,q'];rfl
   have hq:Q' (bs.getD i false) s':=hq
   rw[this] at hq
   exact wpAny_truthy_bool hq
 ·have e:(List.range (bs.map Value.bool).toArray.size).all (fun i=>bs.getD i false)=bs.all id:=by
   rw[List.size_toArray,List.length_map];exact all_range
  rw[e]
  refine⟨.bl (bs.all id),H,I.kept (h':=h') (t':=tk) fun b o e'=>k b o (fun z=>?_) (Heap.get?_push_of_some _ e'),rfl,q⟩
  have z:b=s.heap.objs.size:=by simpa using z
  exact absurd (Heap.lt_size e') (by rw[z];exact Nat.lt_irrefl _)
theorem uc(hc:X.calm=true)(hg:Gl X "all")(hm:X.mg "all"=none)(hb:bootBuiltins "all"=some (.builtin "all"))(ha:k7 X Xw [e] δs)(he:starEach [e] X.env=[(false,eval e X.env)]:=by rfl):PD X Xw (.Call (.Name "all" p) [e] [] pos) (dA allM δs):=
 dO (vR hc) (fun Xw F H vs ds Q s h w=>by
  unfold allM at w
  split at w
  ·rename_i ds
   obtain⟨v,rfl,h1⟩:=h.one
   obtain⟨a,ws,rfl,h2,h3,_⟩:=h1
   split at w
   ·rename_i bs hb
    exact⟨a,bs,rfl,by rw[←nH hb h3];exact s _ _ h2,WP.now w s rfl⟩
   ·exact w.elim
  ·exact w.elim) hg hm hb ha (by decide) (by decide) he rfl
end
section
variable{X:Cx}{Xw:Nat→Hp→Prop}{a b e e2:Expr}{es:List Expr}{δ δa δb:DE}{δs:DA}{pos p apos bf:Pos}
theorem BF{i:Nat}:∀F₀ H₀ D σ H,tS X.K Xw F₀ H₀ (kO i δ) D σ H→zT (IU X.K "list" vy (mN i) (zS (tD X.K Xw δ) En)) D σ H:=fun F₀ H₀ D σ H ⟨F,ρ,s,w⟩=>by
 unfold kO at w
 cases ho:wK ρ i with
 |none=>rw[ho] at w;exact w.elim
 |some ds=>
  rw[ho] at w
  have hi:=oH ho
  obtain⟨v,hv,a,o,rfl,hH,hF,vs,rfl,hd,hl⟩:=s.st.den i _ hi
  have w:WPS X.K Xw F₀ H₀ (δ ρ>>=fun d=>if ds.length<lim then M.ret (.nx (ρ.set i (some (.ow (.lst (ds++[d])))))) else M.stuck) D:=w
  refine⟨.ref a,hv, .inl ⟨rfl,vs,SqL.of hH⟩,F,ρ,s.st,?_⟩
  rcases(δ ρ).cs with q | ⟨n,q⟩ | ⟨d,q⟩
  ·rw[q] at w;exact w.elim
  ·rw[q] at w⊢;exact fun F' H' e'=>w F' H' (s.ext.trans e')
  ·rw[q] at w⊢
   intro u H1 F1 e1 hq
   have w:WPS X.K Xw F₀ H₀ (if ds.length<lim then M.ret (.nx (ρ.set i (some (.ow (.lst (ds++[d])))))) else M.stuck) D:=w
   split at w
   ·rename_i fX
    have hlen:=hd.len
    refine⟨a,vs,u,rfl,rfl,e1.hh _ _ hH,by have:=cf;omega,?_⟩
    exact w σ F1 _ ((s.ext' e1).chg (c₀:= .lst (ds++[d])) hi hv ⟨_,rfl,DenL.append (DenL.mono e1.ff hd) (.cons hq .nil),by rw[List.length_append];exact fX⟩)
   ·exact w.elim
theorem BG{i:Nat}:∀F₀ H₀ D σ H,tS X.K Xw F₀ H₀ (zD i δ) D σ H→zT (IU X.K "list" vz (mN i) (zS (tD X.K Xw δ) En)) D σ H:=fun F₀ H₀ D σ H ⟨F,ρ,s,w⟩=>by
 unfold zD at w
 cases ho:wK ρ i with
 |none=>rw[ho] at w;exact w.elim
 |some ds=>
  rw[ho] at w
  have hi:=oH ho
  obtain⟨v,hv,a,o,rfl,hH,hF,vs,rfl,hd,hl⟩:=s.st.den i _ hi
  have w:WPS X.K Xw F₀ H₀ (δ ρ>>=fun d=>lstM d>>=fun es=>if ds.length+es.length≤lim then M.ret (.nx (ρ.set i (some (.ow (.lst (ds++es)))))) else M.stuck) D:=w
  refine⟨.ref a,hv, .inl ⟨rfl,vs,SqL.of hH⟩,F,ρ,s.st,?_⟩
  rcases(δ ρ).cs with q | ⟨n,q⟩ | ⟨d,q⟩
  ·rw[q] at w;exact w.elim
  ·rw[q] at w⊢;exact fun F' H' e'=>w F' H' (s.ext.trans e')
  ·rw[q] at w⊢
   intro u H1 F1 e1 hq
   cases d with
   |lst es=>
    obtain⟨b,ws,rfl,k2,k3,k4⟩:=hq
    have w:WPS X.K Xw F₀ H₀ (if ds.length+es.length≤lim then M.ret (.nx (ρ.set i (some (.ow (.lst (ds++es)))))) else M.stuck) D:=w
    split at w
    ·rename_i fX
     have hlen:=hd.len
     have JM:=k3.len
     refine⟨a,b,vs,ws,rfl,rfl,e1.hh _ _ hH,e1.fh _ _ k2,by have:=cf;omega,?_⟩
     exact w σ F1 _ ((s.ext' e1).chg (c₀:= .lst (ds++es)) hi hv ⟨_,rfl,DenL.append (DenL.mono e1.ff hd) k3,by rw[List.length_append];exact fX⟩)
    ·exact w.elim
   |_=>exact w.elim
theorem kY{i:Nat}{x:Str}(hv:PE X (.Name x p) (mN i))(he:PD X Xw e δ)(hs:swapsWith (.Call (.Attribute (.Name x p) "append" apos) [e] [] bf) none pos.line X.env=pure false:=by rfl)
 (iR:attributeBase (.Name x p) "append" X.env (eval (.Name x p) X.env)=eval (.Name x p) X.env:=by rfl)
 (pF:((backTo bf (starEach [e] X.env)).all (fun x=>!x.1)&&(backToKw bf (keywordEach [] X.env)).all (fun x=>x.1.isSome)&&decide ([e].length+([]:List Keyword).length+(if ([]:List Keyword).isEmpty then 0 else 1)<30))=true:=by rfl)
 (iS:(apos.endLine==bf.line)=true:=by rfl)(wa:starEach [e] X.env=[(false,eval e X.env)]:=by rfl):iI X Xw (.Expr (.Call (.Attribute (.Name x p) "append" apos) [e] [] bf) pos) (kO i δ):=fun F₀ H₀=>
 PS.weak (kX (y9 PySem.F.plainAttrs_list PySem.F.slot_list_append PySem.F.type_list_append oz hv (p5 he p6 wa) iR pF iS wa rfl) hs) fun D σ H w=>BF F₀ H₀ D σ H w
theorem Bn{i:Nat}{x:Str}(hv:PE X (.Name x p) (mN i))(he:PD X Xw e δ)(hs:swapsWith (.Call (.Attribute (.Name x p) "extend" apos) [e] [] bf) none pos.line X.env=pure false:=by rfl)
 (iR:attributeBase (.Name x p) "extend" X.env (eval (.Name x p) X.env)=eval (.Name x p) X.env:=by rfl)
 (pF:((backTo bf (starEach [e] X.env)).all (fun x=>!x.1)&&(backToKw bf (keywordEach [] X.env)).all (fun x=>x.1.isSome)&&decide ([e].length+([]:List Keyword).length+(if ([]:List Keyword).isEmpty then 0 else 1)<30))=true:=by rfl)
 (iS:(apos.endLine==bf.line)=true:=by rfl)(wa:starEach [e] X.env=[(false,eval e X.env)]:=by rfl):iI X Xw (.Expr (.Call (.Attribute (.Name x p) "extend" apos) [e] [] bf) pos) (zD i δ):=fun F₀ H₀=>
 PS.weak (kX (y9 PySem.F.plainAttrs_list PySem.F.slot_list_extend PySem.F.type_list_extend wA hv (p5 he p6 wa) iR pF iS wa rfl) hs) fun D σ H w=>BG F₀ H₀ D σ H w
theorem yP:OpR X (binaryOp .Add) (fun x y H Q=>∃a b ys,x= .ref a∧y= .ref b∧SqT X.K H a []∧SqT X.K H b ys∧Q (.ref b) H):=by
 intro pins s σ H x y v u Q I rx ry h
 obtain⟨a,b,ys,rfl,rfl,ha,hb,q⟩:=h
 cases rx
 cases ry
 obtain⟨aA,r1,p1,_⟩:=I.tuple ha
 obtain⟨er,r2,p2,_⟩:=I.tuple hb
 cases r1
 obtain⟨⟨cls,dd,data,sl⟩,ho,hc,n,hd⟩:=id p1
 obtain⟨⟨Hg,Ah,data2,G4⟩,CZ,CN,n2,hd2⟩:=id p2
 simp only at hc hd CN hd2
 subst hc hd CN hd2
 exact concat_meets ⟨_,ho,rfl⟩ ⟨_,CZ,rfl⟩ noFill_tuple_add seq_tuple_add PySem.F.slot_tuple_add PySem.F.entry_tuple_add (PySem.F.args_tuple_add_2 _ _)
  (tuple_addW0 a b _ _ n n2 dd Ah sl G4 (by simp)) ⟨ho,CZ,⟨.ref b,H,I,rfl,q⟩⟩
def j6:D→D→M D
 | .tup x, .tup y=>if x.length+y.length≤lim then M.ret (.tup (x++y)) else M.stuck
 |_,_=>M.stuck
theorem vj(ha:PD X Xw a δa)(hb:PD X Xw b δb):PD X Xw (.BinOp a .Add b pos) (d2 j6 δa δb):=h7 (yP.or AV) (fun Xw F H x y dx dy Q s hx hy w=>by
 unfold j6 at w
 split at w
 ·rename_i i j
  obtain⟨a,vs,h1,h2,h3,h4⟩:=hx
  obtain⟨a',vs',k1,k2,k3,k4⟩:=hy
  split at w
  ·rename_i hl
   have e1:=h3.len
   have e2:=k3.len
   have:=cf
   by_cases hv:vs=[]
   ·subst hv
    have:i=[]:=by cases i with | nil=>rfl | cons _ _=>simp at e1
    subst this
    exact .inl ⟨a,a',vs',h1,k1,SqT.of (s _ _ h2),SqT.of (s _ _ k2),WP.now w s ⟨a',vs',k1▸rfl,k2,k3,k4⟩⟩
   ·refine .inr ⟨a,a',vs,vs',h1,k1,SqT.of (s _ _ h2),SqT.of (s _ _ k2),hv,by omega,fun z=>?_,fun z p hp=>?_⟩
    ·subst z
     have:j=[]:=by cases j with | nil=>rfl | cons _ _=>simp at e2
     subst this
     rw[List.append_nil] at w
     exact WP.now w s ⟨a,vs,rfl,h2,h3,h4⟩
    ·exact WP.fin w (Ext.lay s hp) ⟨p,_,rfl,aF,DenL.mono (Ext.lay s hp).ff (h3.append k3),by rw[List.length_append];exact hl⟩
  ·exact w.elim
 ·exact w.elim) ha hb
end
section
variable{X:Cx}{Xw:Nat→Hp→Prop}{a b e e2 o:Expr}{es:List Expr}{δ δa δb δo:DE}{δs:DA}{pos p apos bf:Pos}
def dM(kd:D→Bool)(g:D→List D→M D)(o:DE)(s:DA):DE:=fun ρ=>o ρ>>=fun d=>if kd d then s ρ>>=fun ds=>g d ds else M.stuck
theorem FY{T:String}{name:Str}{id:String}{r:V→List V→Hp→VK→Prop}{kd:D→Bool}{g:D→List D→M D}(pa:PlainAttrs T)(slot:Slot T name id)(Ia:typeOf (.builtin id)=pure (.type "method_descriptor"))(hm:Ha X id r)
 (hk:∀(F H:Hp) (x:V) (d:D),kd d=true→Same F H→Den X.K F d x→G7 X.K T x H)
 (hd:∀(Xw:Nat→Hp→Prop) (F H:Hp) (x:V) (vs:List V) (d:D) (ds:List D) (Q:VK),Same F H→Den X.K F d x→DenL X.K F ds vs→WP X.K Xw F H (g d ds) Q→r x vs H Q)
 (ho:PD X Xw o δo)(ha:k7 X Xw (e::es) δs)
 (iR:attributeBase o name X.env (eval o X.env)=eval o X.env:=by rfl)
 (pF:((backTo bf (starEach (e::es) X.env)).all (fun x=>!x.1)&&(backToKw bf (keywordEach [] X.env)).all (fun x=>x.1.isSome)
  &&decide ((e::es).length+([]:List Keyword).length+(if ([]:List Keyword).isEmpty then 0 else 1)<30))=true:=by rfl)
 (iS:(apos.endLine==bf.line)=true:=by rfl) (hs:starEach (e::es) X.env=(false,eval e X.env)::starEach es X.env:=by rfl) (tG:(backTo bf (starEach es X.env)).any (·.1)=false:=by rfl):
 PD X Xw (.Call (.Attribute o name apos) (e::es) [] bf) (dM kd g δo δs):=PE.weak (y9 pa slot Ia hm ho ha iR pF iS hs tG) fun σ H Q ⟨F,ρ,s,w⟩=>by
 refine⟨F,ρ,s,WP.mono (WP.bind w) fun v H1 ⟨F1,d,e1,q1,w1⟩=>?_⟩
 split at w1
 ·rename_i K6
  refine⟨hk F1 H1 v d K6 e1.fh q1,F1,ρ,s.ext e1,WPL.mono (WP.bindL w1) fun vs H2 ⟨F2,ds,e2,q2,w2⟩=>?_⟩
  exact hd Xw F2 H2 v vs d ds Q e2.fh (Den.mono e2.ff q1) q2 w2
 ·exact w1.elim
def FF:D→Bool
 | .str _=>true
 |_=>false
theorem C_{K:W.Frag}(F H:Hp)(x:V)(d:D)(h:FF d=true)(s:Same F H)(q:Den K F d x):G7 K "str" x H:=by
 cases d with
 |str z=>cases (show _=_ from q.1);exact rfl
 |_=>cases h
def jW:List D→Option (List Str)
 |[]=>some []
 | .str x::r=>(jW r).map (x:: ·)
 |_=>none
theorem jj{K:W.Frag}{F:Hp}:∀{ds:List D}{vs:List V}{xs:List Str},jW ds=some xs→DenL K F ds vs→vs=xs.map V.str
 |[],_,_,e,h=>by cases e;exact h
 | .str b::r,_,_,e,⟨v,r',h1,h2,h3⟩=>by
   unfold jW at e
   cases q:jW r with
   |none=>rw[q] at e;cases e
   |some bs=>rw[q] at e;cases e;subst h1;rw[jj q h3,show v= .str b from h2.1];rfl
 | .non::_,_,_,e,_=>by cases e
 | .int _::_,_,_,e,_=>by cases e
 | .bl _::_,_,_,e,_=>by cases e
 | .raw _::_,_,_,e,_=>by cases e
 | .exc _::_,_,_,e,_=>by cases e
 | .scr _::_,_,_,e,_=>by cases e
 | .tup _::_,_,_,e,_=>by cases e
 | .lst _::_,_,_,e,_=>by cases e
theorem mR:∀{xs:List Str}{aA:List Value},Vals (xs.map V.str) aA→StrsAre aA xs
 |[],_,r=>by cases r;exact .nil
 |b::bs,_,r=>by
  cases r with
  |cons r1 r2=>obtain⟨t,rfl⟩:=r1;exact .cons b t (mR r2)
def dR:List Str→Str
 |[]=>⟨#[]⟩
 |x::r=>x++dR r
def joinM:D→List D→M D
 | .str sep,[.lst ds]=>match jW ds with
   |some xs=>if sep.length=0∧(xs.map (·.length)).sum≤lim then M.ret (.str (dR xs)) else M.stuck
   |none=>M.stuck
 | .str sep,[.tup ds]=>match jW ds with
   |some xs=>if sep.length=0∧(xs.map (·.length)).sum≤lim then M.ret (.str (dR xs)) else M.stuck
   |none=>M.stuck
 |_,_=>M.stuck
theorem lb:∀xs:List Str,(dR xs).length=(xs.map (·.length)).sum
 |[]=>rfl
 |x::r=>by
  show (x++dR r).length=_
  rw[gJ,lb r,List.map_cons,List.sum_cons]
theorem vG{x:Str}(h:x.length=0):x=⟨#[]⟩:=by
 obtain⟨⟨l⟩⟩:=x
 have:l.length=0:=h
 cases l with
 |nil=>rfl
 |cons _ _=>simp at this
theorem kD(x:Str):x++(⟨#[]⟩:Str)=x:=by
 obtain⟨c⟩:=x
 show (⟨c++ #[]⟩:Str)=⟨c⟩
 simp
theorem j7(sep:Str)(h:sep.length=0):∀xs:List Str,Txt.join sep xs=dR xs:=by
 have e:=vG h
 subst e
 intro xs
 show Builtin.Str.glued _ xs=_
 rw[StrLaws.glued_eq_join]
 induction xs with
 |nil=>rfl
 |cons x r ih=>
  cases r with
  |nil=>show x=x++(⟨#[]⟩:Str);rw[kD]
  |cons y r=>show x++(⟨#[]⟩:Str)++Str.join _ (y::r)=x++dR (y::r);rw[kD,ih]
def rJoin(K:W.Frag):V→List V→Hp→VK→Prop:=fun x vs H Q=>∃(sep:Str) (a:Addr) (xs:List Str),x= .str sep∧vs=[.ref a]∧(H a=some (.lst (xs.map V.str))∨H a=some (.tup (xs.map V.str)))∧sep.length=0∧(xs.map (·.length)).sum≤lim∧Q (.str (dR xs)) H
theorem AO:Ha X "str.join" (rJoin X.K):=by
 intro pins s σ H x vs v us Q I rx rv h
 obtain⟨sep,a,xs,rfl,rfl,hH,hs,hl,q⟩:=h
 obtain⟨t,rfl⟩:=rx
 obtain⟨u,rfl,r1⟩:=rv.one
 cases (show u=_ from r1)
 have hok:(xs.map (·.length)).sum+xs.length*sep.length≤16777216:=by
  rw[hs,Nat.mul_zero]
  unfold lim at hl
  omega
 rcases hH with hH | hH
 ·obtain⟨aA,r2,pl,hz⟩:=I.list (SqL.of (K:=X.K) hH)
  refine join_list pl.isList (by simpa using mR r2) hok fun t' k=>⟨.str (dR xs),H,I.tok k,⟨t',by rw[j7 sep hs]⟩,q⟩
 ·obtain⟨aA,r2,pl,hz⟩:=I.tuple (SqT.of (K:=X.K) hH)
  refine join_tuple pl (by simpa using mR r2) hok fun t' k=>⟨.str (dR xs),H,I.tok k,⟨t',by rw[j7 sep hs]⟩,q⟩
theorem A7(ho:PD X Xw o δo)(ha:k7 X Xw [e] δs)(iR:attributeBase o "join" X.env (eval o X.env)=eval o X.env:=by rfl)
 (pF:((backTo bf (starEach [e] X.env)).all (fun x=>!x.1)&&(backToKw bf (keywordEach [] X.env)).all (fun x=>x.1.isSome)&&decide ([e].length+([]:List Keyword).length+(if ([]:List Keyword).isEmpty then 0 else 1)<30))=true:=by rfl)
 (iS:(apos.endLine==bf.line)=true:=by rfl)(wa:starEach [e] X.env=[(false,eval e X.env)]:=by rfl):PD X Xw (.Call (.Attribute o "join" apos) [e] [] bf) (dM FF joinM δo δs):=
 FY PySem.F.plainAttrs_str PySem.F.slot_str_join PySem.F.type_str_join AO C_ (fun Xw F H x vs d ds Q s hx hv w=>by
  unfold joinM at w
  split at w
  ·rename_i sep ds
   obtain⟨v,rfl,h1⟩:=hv.one
   obtain⟨a,ws,rfl,h2,h3,_⟩:=h1
   split at w
   ·rename_i xs C4
    split at w
    ·rename_i hc
     exact⟨sep,a,xs,hx.1,rfl, .inl (by rw[←jj C4 h3];exact s _ _ h2),hc.1,hc.2,WP.now w s ⟨rfl,by rw[lb];exact hc.2⟩⟩
    ·exact w.elim
   ·exact w.elim
  ·rename_i sep ds
   obtain⟨v,rfl,h1⟩:=hv.one
   obtain⟨a,ws,rfl,h2,h3,_⟩:=h1
   split at w
   ·rename_i xs C4
    split at w
    ·rename_i hc
     exact⟨sep,a,xs,hx.1,rfl, .inr (by rw[←jj C4 h3];exact s _ _ h2),hc.1,hc.2,WP.now w s ⟨rfl,by rw[lb];exact hc.2⟩⟩
    ·exact w.elim
   ·exact w.elim
  ·exact w.elim) ho ha iR pF iS wa rfl
theorem ue(hc:X.calm=true)(hg:Gl X "max")(hm:X.mg "max"=none)(hb:bootBuiltins "max"=some (.builtin "max"))(ha:k7 X Xw [e,e2] δs)(he:starEach [e,e2] X.env=(false,eval e X.env)::starEach [e2] X.env:=by rfl)
 (nW:(backTo pos (starEach [e2] X.env)).any (·.1)=false:=by rfl):PD X Xw (.Call (.Name "max" p) [e,e2] [] pos) (dA tO δs):=
 dO (vS hc) (fun Xw F H vs ds Q s h w=>by
  unfold tO at w
  split at w
  ·obtain⟨v,v',rfl,h1,h2⟩:=h.two
   cases (show _=_ from h1)
   cases (show _=_ from h2)
   exact⟨_,_,rfl,WP.now w s rfl⟩
  ·exact w.elim) hg hm hb ha (by decide) (by decide) he nW
theorem yY(hc:X.calm=true)(hg:Gl X "min")(hm:X.mg "min"=none)(hb:bootBuiltins "min"=some (.builtin "min"))(ha:k7 X Xw [e,e2] δs)(he:starEach [e,e2] X.env=(false,eval e X.env)::starEach [e2] X.env:=by rfl)
 (nW:(backTo pos (starEach [e2] X.env)).any (·.1)=false:=by rfl):PD X Xw (.Call (.Name "min" p) [e,e2] [] pos) (dA wy δs):=
 dO (vT hc) (fun Xw F H vs ds Q s h w=>by
  unfold wy at w
  split at w
  ·obtain⟨v,v',rfl,h1,h2⟩:=h.two
   cases (show _=_ from h1)
   cases (show _=_ from h2)
   exact⟨_,_,rfl,WP.now w s rfl⟩
  ·exact w.elim) hg hm hb ha (by decide) (by decide) he nW
def nums:List D→Option (List Int)
 |[]=>some []
 | .int x::r=>(nums r).map (x:: ·)
 |_=>none
theorem gg{K:W.Frag}{F:Hp}:∀{ds:List D}{vs:List V}{xs:List Int},nums ds=some xs→DenL K F ds vs→vs=xs.map V.int
 |[],_,_,e,h=>by cases e;exact h
 | .int b::r,_,_,e,⟨v,r',h1,h2,h3⟩=>by
   unfold nums at e
   cases q:nums r with
   |none=>rw[q] at e;cases e
   |some bs=>rw[q] at e;cases e;subst h1;rw[gg q h3,show v= .int b from h2];rfl
 | .non::_,_,_,e,_=>by cases e
 | .str _::_,_,_,e,_=>by cases e
 | .bl _::_,_,_,e,_=>by cases e
 | .raw _::_,_,_,e,_=>by cases e
 | .exc _::_,_,_,e,_=>by cases e
 | .scr _::_,_,_,e,_=>by cases e
 | .tup _::_,_,_,e,_=>by cases e
 | .lst _::_,_,_,e,_=>by cases e
def Am(neg:Bool):D→D→M D
 | .int i, .tup ds=>match nums ds with | some ns=>M.ret (.bl (if neg then !ns.contains i else ns.contains i)) | none=>M.stuck
 |_,_=>M.stuck
theorem ri(i:Int)(ns:List Int):GZ (.int i) (ns.map V.int)=ns.contains i:=by
 unfold GZ
 rw[List.any_map]
 induction ns with
 |nil=>rfl
 |cons n ns ih=>
  rw[List.any_cons,List.contains_cons,ih]
  congr 1
  show z6 (.int n) (.int i)=(i==n)
  unfold z6
  exact Bool.beq_comm
theorem C7{neg:Bool}{K:W.Frag}:qF K (II K neg) (Am neg):=fun Xw F H x y dx dy Q s hx hy w=>by
 unfold Am at w
 split at w
 ·rename_i i ds
  obtain⟨a,vs,h1,h2,h3,h4⟩:=hy
  split at w
  ·rename_i ns hn
   have hv:=gg hn h3
   subst hv
   cases (show _=_ from hx)
   refine⟨a,ns.map V.int,h1, .inr (SqT.of (s _ _ h2)),rfl,?_,?_⟩
   ·rw[List.all_map]
    exact List.all_eq_true.mpr fun _ _=>rfl
   ·rw[ri]
    exact WP.now w s rfl
  ·exact w.elim
 ·exact w.elim
theorem wW(ha:PD X Xw a δa)(hb:PD X Xw b δb)(hm:behindInMarks .NotIn b=false:=by rfl):o8 X Xw (.Compare a [.NotIn] [b] pos) (c0 (d2 (Am true) δa δb)):=g0 i4 C7 ha hb hm
def x_(neg:Bool):D→D→M D
 | .str x, .str y=>M.ret (.bl (if neg then !(!(Builtin.Str.occurrences y x 0 y.length 1).isEmpty) else !(Builtin.Str.occurrences y x 0 y.length 1).isEmpty))
 |_,_=>M.stuck
theorem DI(ha:PD X Xw a δa)(hb:PD X Xw b δb)(hm:behindInMarks .In b=false:=by rfl):PD X Xw (.Compare a [.In] [b] pos) (d2 (x_ false) δa δb):=mr wH (fun Xw F H x y dx dy Q s hx hy w=>by
 unfold x_ at w
 split at w
 ·exact⟨_,_,hx.1,hy.1,WP.now w s rfl⟩
 ·exact w.elim) ha hb hm
end
end L3
namespace L3
open PySem PySem.Spec L2 SeqAt HT
open PyProof.Rows hiding St
section
variable{prog:Program}{w:World}{A:Around}{E:Value→Shared→Prop}{s:Shared}
theorem g8{t sl:Addr}{items:Array Value}{vl vu:Value}{lo hi:Option Int}{Q:Value→Shared→Prop}(ht:IsTup s.heap t items)(hs:s.heap.IsSliceOf sl vl vu .none)(pl:IsPart vl lo)(pu:IsPart vu hi)
 (hw:sIx items.size 0 lo=0∧sIx items.size items.size hi=items.size)(h:Q (.ref t) s):wpAny (model prog w) A (getItem (.ref t) (.ref sl)) Q E s:=by
 obtain⟨os,yn,GQ,B2⟩:=id hs
 have Hs:s.TypeIs (.ref sl) "slice":=⟨os,yn,GQ⟩
 unfold getItem
 try with_reducible refine wpAny_holding ?_
 first | refine wpAny_bind (wpAny_pure ?_) | skip
 refine wpAny_bind (wpAny_sequenceKey ht.typeIs (by decide) ?_)
 refine wpAny_bind (wpAny_callSpecial?_slot (name:=Str.ofString "__getitem__") ht.typeIs PyProof.Rows.slot_tuple_getitem
  (wpAny_call_entry PyProof.Rows.slot_tuple_getitem ht.typeIs entry_tuple_getitem ?_ (args_tuple_getitem _ _)))
 show wpAny _ _ (Builtin.Tuple.tupleItemsOf (.ref t)>>=_) _ _ s
 refine wpAny_bind (tupleItemsOf_ ht ?_)
 refine wpAny_bind (wpAny_typeOf Hs ?_)
 rw[if_pos (by decide)]
 refine wpAny_bind (sliceApplied_gen hs pl pu ?_)
 have v9:((((sIx items.size 0 lo:Nat):Int)==0&&(1:Int)==1&&(sIx items.size items.size hi - sIx items.size 0 lo)==items.size)=true):=by
  rw[hw.1,hw.2]
  simp
 show wpAny _ _ (if (((sIx items.size 0 lo:Nat):Int)==0&&(1:Int)==1&&(sIx items.size items.size hi - sIx items.size 0 lo)==items.size)=true then _ else _) _ _ s
 rw[if_pos v9]
 refine wpAny_bind ?_
 unfold Builtin.Tuple.tupleIsExact
 refine wpAny_bind (wpAny_typeOf ht.typeIs (wpAny_pure ?_))
 rw[if_pos (by decide)]
 exact wpAny_bind (wpAny_rule (wpAny_pure ⟨_,rfl,wpAny_pure h⟩))
end
section
variable{X:Cx}{Xw:Nat→Hp→Prop}{a b e:Expr}{lo hi:Option Expr}{δ δa δb:DE}{pos p p2:Pos}
theorem BD:SlR X (fun x lo hi H Q=>∃a xs,x= .ref a∧SqT X.K H a xs∧(sIx xs.length 0 lo=0∧sIx xs.length xs.length hi=xs.length)∧Q (.ref a) H):=by
 intro pins s σ H x v vl vu lo hi sl Q I rx hs pl pu h
 obtain⟨a,xs,rfl,hx,hw,q⟩:=h
 cases rx
 obtain⟨aA,r,ht,hz⟩:=I.tuple hx
 have hlen:aA.toArray.size=xs.length:=by rw[List.size_toArray];exact r.length.symm
 exact⟨"tuple",_,PyProof.Rows.slot_tuple_getitem.lookup,ht.typeIs,g8 ht hs pl pu (by rw[hlen];exact hw) ⟨.ref a,H,I,rfl,q⟩⟩
theorem Ej:SlR X (fun x lo hi H Q=>∃z:Str,x= .str z∧z.length≤lim∧Q (.str (Txt.slice z lo hi)) H):=by
 intro pins s σ H x v vl vu lo hi sl Q I rx hs pl pu h
 obtain⟨z,rfl,hl,q⟩:=h
 obtain⟨t,rfl⟩:=rx
 have hz:z.length≤sizeLine:=by have:=cf;omega
 cases pl with
 |none=>
  cases pu with
  |none=>exact⟨"str",_,PySem.F.slot_str_getitem.lookup,typeIs_str _ _ _,wpAny_getItem_str_slice (l:=none) (u:=none) (st:=none) hs rfl (post_val_or_str ⟨Nat.le_trans (Txt.slice_le z _ _) hz,fun t' k=>⟨.str _,H,I.tok k,⟨t',rfl⟩,q⟩⟩)⟩
  |int j uj=>exact⟨"str",_,PySem.F.slot_str_getitem.lookup,typeIs_str _ _ _,wpAny_getItem_str_slice (l:=none) (u:=some (j,uj)) (st:=none) hs rfl (post_val_or_str ⟨Nat.le_trans (Txt.slice_le z _ _) hz,fun t' k=>⟨.str _,H,I.tok k,⟨t',rfl⟩,q⟩⟩)⟩
 |int i ui=>
  cases pu with
  |none=>exact⟨"str",_,PySem.F.slot_str_getitem.lookup,typeIs_str _ _ _,wpAny_getItem_str_slice (l:=some (i,ui)) (u:=none) (st:=none) hs rfl (post_val_or_str ⟨Nat.le_trans (Txt.slice_le z _ _) hz,fun t' k=>⟨.str _,H,I.tok k,⟨t',rfl⟩,q⟩⟩)⟩
  |int j uj=>exact⟨"str",_,PySem.F.slot_str_getitem.lookup,typeIs_str _ _ _,wpAny_getItem_str_slice (l:=some (i,ui)) (u:=some (j,uj)) (st:=none) hs rfl (post_val_or_str ⟨Nat.le_trans (Txt.slice_le z _ _) hz,fun t' k=>⟨.str _,H,I.tok k,⟨t',rfl⟩,q⟩⟩)⟩
abbrev DO:=a5→M (Option Int)
def WPO(Xw:Nat→Hp→Prop)(F H:Hp)(m:M (Option Int))(Q:Option Int→Hp→Prop):Prop:=
 match m with
 |none=>False
 |some (.ok b)=>∀H' F',Ext F H F' H'→Q b H'
 |some (.ex n)=>∀F' H',Ext F H F' H'→Xw n H'
def LR(K:W.Frag)(Xw:Nat→Hp→Prop)(δ:DO):TO:=fun σ H Q=>∃F ρ,StE K F H σ ρ∧WPO Xw F H (δ ρ) Q
def GF(X:Cx)(Xw:Nat→Hp→Prop)(e:Option Expr)(δ:DO):Prop:=PO X e (LR X.K Xw δ)
def oN:DO:=fun _=>M.ret none
def oS(δ:DE):DO:=fun ρ=>δ ρ>>=fun d=>match d with | .int i=>M.ret (some i) | _=>M.stuck
theorem y6:GF X Xw none oN:=fun pins s σ H Q I ⟨F,ρ,S,w⟩=>Bh pins s σ H Q I (w H F (Ext.refl S.fh))
theorem y7(h:PD X Xw e δ):GF X Xw (some e) (oS δ):=fun pins s σ H Q I ⟨F,ρ,S,w⟩=>Bi h pins s σ H Q I ⟨F,ρ,S,by
 have w:WPO Xw F H (δ ρ>>=fun d=>match d with | .int i=>M.ret (some i) | _=>M.stuck) Q:=w
 rcases(δ ρ).cs with q | ⟨n,q⟩ | ⟨d,q⟩
 ·rw[q] at w;exact w.elim
 ·rw[q] at w⊢;exact w
 ·rw[q] at w⊢
  intro v H' F' e' hd
  cases d with
  |int i=>exact⟨i,hd,w H' F' e'⟩
  |_=>exact w.elim⟩
theorem WP.bindO{K:W.Frag}{Xw:Nat→Hp→Prop}{F H:Hp}{Q:VK}{m:M (Option Int)}{k:Option Int→M D}(h:WP K Xw F H (m>>=k) Q):WPO Xw F H m fun b H1=>∃F1,Ext F H F1 H1∧WP K Xw F1 H1 (k b) Q:=by
 match m,h with
 |none,h=>exact h
 |some (.ok d),h=>exact fun H2 F2 e2=>⟨F2,e2,WP.ext e2 (show WP K Xw F H (k d) Q from h)⟩
 |some (.ex n),h=>exact h
theorem WPO.mono{Xw:Nat→Hp→Prop}{F H:Hp}{m:M (Option Int)}{Q Q':Option Int→Hp→Prop}(h:WPO Xw F H m Q)(k:∀v H',Q v H'→Q' v H'):WPO Xw F H m Q':=by
 match m,h with
 |none,h=>exact h
 |some (.ok d),h=>exact fun H2 F2 e2=>k _ _ (h H2 F2 e2)
 |some (.ex n),h=>exact h
def cutD(ds:List D)(lo hi:Option Int):List D:=(ds.drop (sIx ds.length 0 lo)).take (sIx ds.length ds.length hi - sIx ds.length 0 lo)
def IQ:D→Option Int→Option Int→M D
 | .tup ds,lo,hi=>M.ret (.tup (cutD ds lo hi))
 | .lst ds,lo,hi=>M.ret (.lst (cutD ds lo hi))
 | .str x,lo,hi=>M.ret (.str (Txt.slice x lo hi))
 |_,_,_=>M.stuck
def Hh(a:DE)(lo hi:DO):DE:=fun ρ=>a ρ>>=fun d=>lo ρ>>=fun l=>hi ρ>>=fun h=>IQ d l h
theorem qP(ds:List D)(lo hi:Option Int):(cutD ds lo hi).length≤ds.length:=by
 unfold cutD
 rw[List.length_take,List.length_drop]
 omega
theorem DenL.cut{K:W.Frag}{F:Hp}{ds:List D}{vs:List V}(h:DenL K F ds vs)(lo hi:Option Int):DenL K F (cutD ds lo hi) (qQ vs lo hi):=by
 unfold cutD qQ
 rw[h.len]
 exact(h.drop _).take _
theorem F0{δo:DE}{κl κh:DO}(he:PD X Xw e δo)(hl:GF X Xw lo κl)(hh:GF X Xw hi κh):PD X Xw (.Subscript e (.Slice lo hi none p2) pos) (Hh δo κl κh):=
 PE.weak (zd (BD.or (Ek.or (BC.or Ej))) he hl hh) fun σ H Q ⟨F,ρ,s,w⟩=>by
  refine⟨F,ρ,s,WP.mono (WP.bind w) fun v H1 ⟨F1,d,e1,q1,w1⟩=>?_⟩
  refine⟨F1,ρ,s.ext e1,WPO.mono (WP.bindO w1) fun l H2 ⟨F2,e2,w2⟩=>?_⟩
  refine⟨F2,ρ,(s.ext e1).ext e2,WPO.mono (WP.bindO w2) fun h H3 ⟨F3,e3,w3⟩=>?_⟩
  have q3:=Den.mono (e2.ff.trans e3.ff) q1
  have fh:=e3.fh
  cases d with
  |tup ds=>
   obtain⟨a,vs,rfl,h2,h3,h4⟩:=q3
   by_cases hw:sIx vs.length 0 l=0∧sIx vs.length vs.length h=vs.length
   ·refine .inl ⟨a,vs,rfl,SqT.of (fh _ _ h2),hw,?_⟩
    have hc:cutD ds l h=ds:=by
     unfold cutD
     rw[h3.len,hw.1,hw.2,Nat.sub_zero,List.drop_zero,←h3.len,List.take_length]
    have w3:WP X.K Xw F3 H3 (M.ret (.tup (cutD ds l h))) Q:=w3
    rw[hc] at w3
    exact WP.now w3 fh ⟨a,vs,rfl,h2,h3,h4⟩
   ·exact .inr (.inl ⟨a,vs,rfl,SqT.of (fh _ _ h2),hw,fun p hp=>WP.fin w3 (Ext.lay fh hp) ⟨p,_,rfl,aF,DenL.mono (Ext.lay fh hp).ff (h3.cut l h),Nat.le_trans (qP _ _ _) h4⟩⟩)
  |lst ds=>
   obtain⟨a,vs,rfl,h2,h3,h4⟩:=q3
   exact .inr (.inr (.inl ⟨a,vs,rfl,SqL.of (fh _ _ h2),fun p hp=>WP.fin w3 (Ext.lay fh hp) ⟨p,_,rfl,aF,DenL.mono (Ext.lay fh hp).ff (h3.cut l h),Nat.le_trans (qP _ _ _) h4⟩⟩))
  |str x=>exact .inr (.inr (.inr ⟨x,q3.1,q3.2,WP.now w3 fh ⟨rfl,Nat.le_trans (Txt.slice_le x _ _) q3.2⟩⟩))
  |_=>exact w3.elim
end
theorem fk:fillsNumberSlot (.type "tuple") "mul"=pure false:=
 PySem.fillsNumberSlot_seq (id:="tuple.__mul__") (r:=some (.builtin "tuple.__rmul__")) F.slot_tuple_mul.lookup (by decide+kernel) F.slot_tuple_rmul.lookup (by decide+kernel)
theorem je:seqRepeat? (.type "tuple")=pure (some (.builtin "tuple.__mul__")):=by
 unfold seqRepeat?
 rw[PySem.seqSlot_of (T:="tuple") (name:="__mul__") (id:="tuple.__mul__") F.slot_tuple_mul.lookup (by decide+kernel),PySem.seqSlot_of (T:="tuple") (name:="__rmul__") (id:="tuple.__rmul__") F.slot_tuple_rmul.lookup (by decide+kernel)]
 rfl
theorem gf(a:Int)(t:Tok)(l:Addr)(items:Array Value)(n:Nat)(dd:Option Addr)(sl:Array (Option Value)):Meets (Builtin.«int.__rmul__» ⟨[.int a t, .ref l],[]⟩) (fun _ R s=>s.heap.get? l=some {cls:= .type "tuple",dict:=dd,data:= .seq items n,slots:=sl}∧R (.ok (.ret Value.notImplemented)) s):=
 .of_wp fun prog w A R s h=>by obtain⟨hp,g,d,tk,os⟩:=s;obtain⟨hl,h⟩:=h;wp_walk;exact⟨_,rfl,h⟩
section
variable{prog:Program}{w:World}{A:Around}{E:Value→Shared→Prop}{s:Shared}
theorem nr{t:Addr}{items:Array Value}{k:Int}{u:Tok}{Q:Value→Shared→Prop}(ht:IsTup s.heap t items)(hk:2≤k∧k≤64)(dB:items.isEmpty=false)(hsz:items.size*k.toNat≤sizeLine)
 (h:Q (.ref s.heap.objs.size) {s with heap:=s.heap.push {cls:= .type "tuple",data:= .seq ((List.replicate k.toNat items).foldl (· ++ ·) #[])} }):wpAny (model prog w) A (call (.builtin "tuple.__mul__") [.ref t, .int k u]) Q E s:=by
 obtain⟨⟨cls,dd,data,sl⟩,ho,hc,n,hd⟩:=id ht
 simp only at hc hd
 subst hc hd
 have e1:(k< -(2 ^ 63)||k≥2 ^ 63)=false:=by simp;omega
 have e2:(items.isEmpty||k==1)=false:=by rw[dB];simp;omega
 have e3:(decide (k≤0)||items.isEmpty)=false:=by rw[dB];simp;omega
 have e4:¬(items.size*k>(2 ^ 63 - 1) / 8):=by
  have:(sizeLine:Nat)≤(2 ^ 63 - 1) / 8:=by decide
  have h2:(items.size:Int)*k=((items.size*k.toNat:Nat):Int):=by rw[Int.natCast_mul,Int.toNat_of_nonneg (by omega)]
  rw[h2]
  omega
 have e5:Builtin.Tuple.tupleTooMany (items.size*k)=false:=by
  unfold Builtin.Tuple.tupleTooMany
  have h2:(items.size:Int)*k=((items.size*k.toNat:Nat):Int):=by rw[Int.natCast_mul,Int.toNat_of_nonneg (by omega)]
  rw[h2]
  exact decide_eq_false (by omega)
 refine wpAny_call_entry F.slot_tuple_mul ht.typeIs F.entry_tuple_mul ?_ (F.args_tuple_mul_2 _ _)
 unfold Builtin.«tuple.__mul__»
 refine wpAny_bind (m:=asIndex (.int k u)) (wpAny_of_eq (a:=k) rfl ?_)
 show wpAny _ _ (if (k< -(2 ^ 63)||k≥2 ^ 63)=true then _ else _) _ _ s
 rw[if_neg (by rw[e1];exact Bool.false_ne_true)]
 refine wpAny_bind (tupleItemsOf_ ht ?_)
 show wpAny _ _ (if (items.isEmpty||k==1)=true then _ else _) _ _ s
 rw[if_neg (by rw[e2];exact Bool.false_ne_true)]
 show wpAny _ _ (if (decide (k≤0)||items.isEmpty)=true then _ else _) _ _ s
 rw[if_neg (by rw[e3];exact Bool.false_ne_true)]
 show wpAny _ _ (if (items.size*k>(2 ^ 63 - 1) / 8) then _ else _) _ _ s
 rw[if_neg e4]
 show wpAny _ _ (if Builtin.Tuple.tupleTooMany (items.size*k)=true then _ else _) _ _ s
 rw[if_neg (by rw[e5];exact Bool.false_ne_true)]
 have Lr:sizeOk (.seq ((List.replicate k.toNat items).foldl (· ++ ·) #[])):=by
  show ((List.replicate k.toNat items).foldl (· ++ ·) #[]).size≤sizeLine
  have hz:∀(m:Nat) (acc:Array Value),((List.replicate m items).foldl (· ++ ·) acc).size=acc.size+m*items.size:=by
   intro m
   induction m with
   |zero=>intro acc;simp
   |succ m ih=>intro acc;rw[List.replicate_succ,List.foldl_cons,ih,Array.size_append,Nat.succ_mul];omega
  rw[hz]
  show 0+k.toNat*items.size≤sizeLine
  rw[Nat.mul_comm]
  omega
 exact wpAny_bind (m:=Builtin.Tuple.tupleExact _) (wpAny_newObj_type (wpAny_pure ⟨_,rfl,h⟩) Lr)
end
section
variable{X:Cx}{Xw:Nat→Hp→Prop}{a b e:Expr}{δ δa δb:DE}{pos p p2:Pos}
def zt(K:W.Frag):R2:=fun x y H Q=>∃l k xs,x= .ref l∧y= .int k∧SqT K H l xs∧(2≤k∧k≤64)∧xs≠[]∧xs.length*k.toNat≤sizeLine∧∀p,H p=none→Q (.ref p) (upd H p (.tup (List.replicate k.toNat xs).flatten))
theorem AY:OpR X (binaryOp .Mult) (zt X.K):=by
 intro pins s σ H x y v u Q I rx ry h
 obtain⟨l,k,xs,rfl,rfl,hH,hk,dB,hz,q⟩:=h
 cases rx
 obtain⟨t,rfl⟩:=ry
 obtain⟨aA,r,pt,_⟩:=I.tuple hH
 have hl:=r.length
 have HN:aA.toArray.isEmpty=false:=by
  cases aA with
  |nil=>cases xs with | nil=>exact absurd rfl dB | cons _ _=>simp at hl
  |cons _ _=>simp
 obtain⟨⟨cls,dd,data,sl⟩,ho,hc,n,hd⟩:=id pt
 simp only at hc hd
 subst hc hd
 have CW:List.foldl (fun x1 x2=>x1++x2) #[] (List.replicate k.toNat aA.toArray)=(List.replicate k.toNat aA).flatten.toArray:=by
  have:=foldl_rep aA k.toNat []
  rw[List.nil_append] at this
  exact this
 refine wpAny_binaryOp_repeat_ref (T:="tuple") (U:="int") (by decide) ⟨_,ho,rfl⟩ (fun s'=>typeIs_int s' k t) fk F.fills_int_mul F.slot_int_rmul je F.slot_int_index.lookup
  (call_meets F.slot_int_rmul (typeIs_int s k t) F.entry_int_rmul (F.args_int_rmul_2 _ _) (gf k t l aA.toArray n dd sl)
   ⟨ho,rfl,⟨_,ho,rfl⟩,nr pt hk HN (by rw[List.size_toArray,←hl];exact hz) ?_⟩)
 rw[CW]
 refine⟨.ref s.heap.objs.size,_,I.laid (t':=s.toks) (o:= .tup (List.replicate k.toNat xs).flatten) (fun b ob q=>Heap.get?_push_of_some _ q) (Nat.le_refl _) ?_,rfl,q _ (I.hok.fresh (Nat.le_refl _))⟩
 exact⟨by rw[len_rep,Nat.mul_comm];exact hz,_,r.rep k.toNat,IsTup.new _ _⟩
def yd:D→D→M D
 | .tup x, .int k=>if (2≤k∧k≤64)∧x.length≠0∧x.length*k.toNat≤lim then M.ret (.tup (List.replicate k.toNat x).flatten) else M.stuck
 |_,_=>M.stuck
end
def GC(x:Str):It:=⟨fun i _=>i<x.cps.size,fun i H v H'=>H'=H∧∃c,x.cps[i]? =some c∧v= .str ⟨#[c]⟩,fun i _=>x.cps.size≤i⟩
theorem xf{P:Program}{w:World}{K:W.Frag}{tg:Expr}(it:Addr)(x:Str)(t:Tok):Turn P w K tg (GC x) [it] it (fun i h=>i≤x.cps.size∧h.IsStrIter it "str_ascii_iterator" x t i) where
 mem:=by simp
 obj:=fun i h st b hb=>by
  have e:b=it:=by simpa using hb
  subst e
  obtain⟨_,o,e,c,d⟩:=st
  exact⟨o,e,fun v z=>by rw[d] at z;cases z⟩
 keep:=fun i h h' st k=>⟨st.1,let ⟨o,e,r⟩:=st.2;⟨o,k it (by simp) o e,r⟩⟩
 item:=by
  intro X hP hw hK hc i pins s σ H E I hf st hg
  subst hP hw hK
  obtain⟨f0,f1,f2,f3,f4,f5⟩:=hf it (by simp)
  have hi:i<x.cps.size:=hg
  refine(Walks.strAscii (prog:=X.prog) (w:=X.w) (I.ok.hd hc) it x t).item i s _ _ hi st.2 fun v h' tk hv mM kk=>?_
  obtain⟨c,u,CO,rfl⟩:=hv
  have I1:Inv X pins σ H {s with heap:=h',toks:=tk}:=I.turned (fun b o hb e=>kk b o (by simpa using hb) e) f0 f1 f3 f4 f5
  obtain⟨o,e,cc,dd⟩:=id mM
  exact⟨_,rfl,nT (s:={s with heap:=h',toks:=tk}) e cc dd (by decide) ⟨.str ⟨#[c]⟩,H,I1,⟨u,rfl⟩,⟨rfl,c,CO,rfl⟩,⟨hi,mM⟩,fun b hb=>(hf b hb).1⟩⟩
 done:=by
  intro X hP hw hK hc i pins s σ H E I hf st hg
  subst hP hw hK
  obtain⟨f0,f1,f2,f3,f4,f5⟩:=hf it (by simp)
  have hi:i=x.cps.size:=Nat.le_antisymm st.1 hg
  subst hi
  exact(Walks.strAscii (prog:=X.prog) (w:=X.w) (I.ok.hd hc) it x t).done s _ _ st.2 fun h' tk kk=>⟨rfl,I.turned (fun b o hb e=>kk b o (by simpa using hb) e) f0 f1 f3 f4 f5⟩
 self:=fun _ _ _ _ _ st h=>wpAny_pyIter_striter_ascii st.2 h
theorem xg{P:Program}{w:World}{K:W.Frag}{tg:Expr}(it:Addr)(x:Str)(t:Tok):Turn P w K tg (GC x) [it] it (fun i h=>i≤x.cps.size∧h.IsStrIter it "str_iterator" x t i) where
 mem:=by simp
 obj:=fun i h st b hb=>by
  have e:b=it:=by simpa using hb
  subst e
  obtain⟨_,o,e,c,d⟩:=st
  exact⟨o,e,fun v z=>by rw[d] at z;cases z⟩
 keep:=fun i h h' st k=>⟨st.1,let ⟨o,e,r⟩:=st.2;⟨o,k it (by simp) o e,r⟩⟩
 item:=by
  intro X hP hw hK hc i pins s σ H E I hf st hg
  subst hP hw hK
  obtain⟨f0,f1,f2,f3,f4,f5⟩:=hf it (by simp)
  have hi:i<x.cps.size:=hg
  refine(Walks.strWide (prog:=X.prog) (w:=X.w) (I.ok.hd hc) it x t).item i s _ _ hi st.2 fun v h' tk hv mM kk=>?_
  obtain⟨c,u,CO,rfl⟩:=hv
  have I1:Inv X pins σ H {s with heap:=h',toks:=tk}:=I.turned (fun b o hb e=>kk b o (by simpa using hb) e) f0 f1 f3 f4 f5
  obtain⟨o,e,cc,dd⟩:=id mM
  exact⟨_,rfl,nT (s:={s with heap:=h',toks:=tk}) e cc dd (by decide) ⟨.str ⟨#[c]⟩,H,I1,⟨u,rfl⟩,⟨rfl,c,CO,rfl⟩,⟨hi,mM⟩,fun b hb=>(hf b hb).1⟩⟩
 done:=by
  intro X hP hw hK hc i pins s σ H E I hf st hg
  subst hP hw hK
  obtain⟨f0,f1,f2,f3,f4,f5⟩:=hf it (by simp)
  have hi:i=x.cps.size:=Nat.le_antisymm st.1 hg
  subst hi
  exact(Walks.strWide (prog:=X.prog) (w:=X.w) (I.ok.hd hc) it x t).done s _ _ st.2 fun h' tk kk=>⟨rfl,I.turned (fun b o hb e=>kk b o (by simpa using hb) e) f0 f1 f3 f4 f5⟩
 self:=fun _ _ _ _ _ st h=>wpAny_pyIter_striter_wide st.2 h
section
variable{X:Cx}{Xw:Nat→Hp→Prop}{tg a b e l o:Expr}{δ δa δb δo:DE}{δs:DA}{pos p p2 apos bf:Pos}
def Il(tl:TE):TI:=fun σ H R=>tl σ H fun x H1=>∃z,x= .str z∧R (GC z) H1
theorem D1{tl:TE}(hl:PE X l tl):PI X tg l (Il tl):=by
 intro pins s σ H R I h
 refine bY (hl pins s σ H _ I h) fun v s1 ⟨x,H1,I1,r1,q1⟩=>?_
 obtain⟨z,e,q⟩:=q1
 subst e
 obtain⟨t,rfl⟩:=r1
 have fp:∀b∈[s1.heap.objs.size],mY X pins H1 b:=fun b hb=>by
  have e:b=s1.heap.objs.size:=by simpa using hb
  subst e
  exact I1.fpOk (Nat.le_refl _) (I1.hok.fresh (Nat.le_refl _))
 cases ha:z.cps.all (· <128)
 ·exact wpAny_pyIter_wide ha ⟨s1.heap.objs.size,[s1.heap.objs.size],_,_,H1,rfl,I1.kept (t':=s1.toks) fun b o e=>Heap.get?_push_of_some _ e,xg _ z t,⟨Nat.zero_le _,_,Heap.get?_push_size _ rfl,rfl,rfl⟩,fp,q⟩
 ·exact wpAny_pyIter_ascii ha ⟨s1.heap.objs.size,[s1.heap.objs.size],_,_,H1,rfl,I1.kept (t':=s1.toks) fun b o e=>Heap.get?_push_of_some _ e,xf _ z t,⟨Nat.zero_le _,_,Heap.get?_push_size _ rfl,rfl,rfl⟩,fp,q⟩
def signs(x:Str):List D:=x.cps.toList.map fun c=>D.str ⟨#[c]⟩
def Eh:D→M (List D)
 | .str x=>M.ret (signs x)
 |_=>M.stuck
theorem AH{K:W.Frag}{F:Hp}(x:Str):ItD K F (GC x) (signs x):=fun F' H' i s1 s2=>by
 refine⟨fun d e=>?_,fun hl=>show x.cps.size≤i by simpa[signs] using hl⟩
 unfold signs at e
 rw[List.getElem?_map] at e
 cases q:x.cps.toList[i]? with
 |none=>rw[q] at e;cases e
 |some c=>
  rw[q] at e
  cases e
  have hi:i<x.cps.size:=by
   have:=(List.getElem?_eq_some_iff.mp q).1
   simpa using this
  refine⟨hi,fun v H'' y=>?_⟩
  obtain⟨e2,c',BZ,rfl⟩:=y
  subst e2
  have:c'=c:=by
   have q':x.cps[i]? =some c:=by simpa using q
   rw[q'] at BZ
   exact(Option.some.inj BZ).symm
  subst this
  exact⟨F',Ext.refl s2,rfl,by show 1≤lim;decide⟩
theorem Ba(h:PD X Xw l δ):uH X Xw tg l (fun ρ=>δ ρ>>=Eh):=PI.weak (D1 h) fun σ H R ⟨F,ρ,s,w⟩=>by
 refine⟨F,ρ,s,WP.mono (WPI.bind w) fun v H1 ⟨F1,d,e1,q1,w1⟩=>?_⟩
 cases d with
 |str z=>exact⟨z,q1.1,w1 _ _ _ (Ext.refl e1.fh) (AH z)⟩
 |_=>exact w1.elim
end
end L3
namespace L3
open PySem PySem.Spec L2 SeqAt HT
open PyProof.Rows hiding St
open PySem.W (Frag Looks InstAt findIn mroIn)
open PySem.Builtin PySem.Builtin.ObjectAttr PySem.Builtin.Getset_descriptor
section
variable{prog:Program}{w:World}{A:Around}{E:Value→Shared→Prop}{h:Heap}{g:Array GenState}{d:Drawn}{t:Nat}{os:OsState}{x D:Addr}{ox:Obj}{K:Frag}
structure ExcC (K:Frag) (D:Addr):Prop where
 ga:findIn K (.ref D) "__getattribute__"=some (some (.builtin "BaseException.__getattribute__"))
 gt:findIn K (.ref D) "__getattr__"=some none
 ca:findIn K (.ref D) "__class__"=some (some (.builtin "object.__class__"))
 mo:mroIn K D (.type "object")=some true
 mb:mroIn K D (.type "BaseException")=some true
 cl:(PySem.W.clsIn K D).isSome=true
end
section
variable{X:Cx}{Xw:Nat→Hp→Prop}{e e2:Expr}{δs:DA}{pos p:Pos}
end
end L3
namespace L3
open PySem PySem.Spec L2 SeqAt HT
open PyProof.Rows hiding St
open PySem.W (Frag Looks findIn mroIn)
section
variable{X:Cx}{pins pn:List (Addr×Obj)}{σ:St}{H:Hp}{s:Shared}{E:Value→Shared→Prop}{ea:Addr}
end
section
variable{P:Program}{w:World}{K:W.Frag}{mg:Str→Option Value}{base:Heap}{N:List Str}{qual:Str}{scope:Scope}{f:Addr}{cd:Value}{A:Around}{outer:List Env}{s₀:Shared}{H₀:Hp}{E:XK}{cv:Nat→Value}
end
end L3
namespace L3
open PySem PySem.Spec L2 SeqAt HT
open PyProof.Rows hiding St
structure RoomH (k:Nat) (A:Around):Prop where
 dp:A.depth+3*k+5<recursionLimit
 un:A.units+16*k+200<cLine
theorem RoomH.units{k:Nat}{A:Around}(r:RoomH k A):A.units+64<cLine:=by have:=r.un;omega
structure FnOkH (P:Program) (w:World) (K:W.Frag) (mg:Str→Option Value) (base:Heap) (k:Nat) (f:Addr) (fd:FuncData) (ps:List Str) (sp:Sp):Prop where
 len:∀vs H Q E,sp vs H Q E→vs.length=ps.length
 run:∀(A:Around) (outer:List Env) (s:Shared) (H:Hp) (args:Args) (us:List Value) (vs:List V) (Q:VK) (E:XK),RoomH k A→Env0 P w K mg base A outer s H→BindsTo s fd args (ps.zip us)→Vals vs us→sp vs H Q E→
  codeAny (model P w) A (.call (.ref f) args) (CR Kg outer P w H s Q E) s
section
variable{P:Program}{w:World}{K:W.Frag}{mg:Str→Option Value}{base:Heap}{cv:Nat→Value}
end
section
variable{X:Cx}{Xw:Nat→Hp→Prop}{cv:Nat→Value}{k m:Nat}{f:Addr}{fd:FuncData}{ps:List Str}{g:List D→M D}{x:Str}{p pos:Pos}{e:Expr}{es:List Expr}{δs:DA}
end
def uO(N:List Str)(osc scope:Scope)(tn:List Str):Bool:=
 decide (scope.kind= .function)&&scope.names.all (fun y=>decide (y.2≠ .cell))&&scope.names.all (fun y=>decide (y.2= .local→scope.names.lookup y.1=some .local))&&
 scope.names.all (fun y=>decide (y.2= .free→(osc.names.lookup y.1=some .cell∨osc.names.lookup y.1=some .free)))&&
 ((cH tn N).zip N).all (fun p=>decide (scope.names.lookup p.1=none∨(p.1=p.2∧scope.names.lookup p.1=some .free)))
theorem bC{X:Cx}{N:List Str}{osc scope:Scope}{tn:List Str}(hN:X.N=N)(ho:X.env.scope=osc)(h:uO N osc scope tn=true):CompSc X scope tn:=by
 unfold uO at h
 simp only[Bool.and_eq_true,List.all_eq_true,decide_eq_true_eq] at h
 obtain⟨⟨⟨⟨h1,h2⟩,h3⟩,h4⟩,h5⟩:=h
 refine⟨h1,h2,h3,fun y hy hf=>?_,?_⟩
 ·have:=h4 y hy hf
  rw[←ho] at this
  exact this
 ·rw[hN]
  exact h5
theorem cG{X:Cx}{x:Str}{px:Pos}{σ:St}(hN:X.N.Nodup)(h0:X.N[0]? =some x)(CU:X.env.scope.names.lookup x=some .local):xt X (.Name x px) 0 σ:=fun pins s σ' F H d ts v u I fh hd rv q e=>by
 have e:M.ret [d]=M.ret ts:=e
 have e:=eP e
 subst e
 refine wpAny_assign_Name (sA I hN h0 (.inl CU) rv (fun s' I'=>⟨[v],?_, .cons q .nil⟩) (.inr CU))
 have hl:0<σ'.length:=by rw[I.len];exact(List.getElem?_eq_some_iff.mp h0).1
 have:σ'.set 0 (some v)=[v].map some++σ:=by
  cases σ' with
  |nil=>simp at hl
  |cons a r=>
   have hd:r=σ:=by simpa using hd
   subst hd
   rfl
 rw[←this]
 exact I'
theorem cz{P:Program}{w:World}{cv:Nat→Value}{X:Cx}:Passes (nv P w cv) X (EX cv fun _ _=>False):=fun _ _ _ _ _ _ _ ⟨_,_,_,_,_,_,_,_,_,_,_,_,_,_,z⟩=>z.elim
def bD(K:W.Frag)(mg:Str→Option Value)(x:Str)(st:Stmt)(f:Addr):Prop:=mg x=some (.ref f)∧∃fd,Fun K x x st f fd
def ai(P:Program)(w:World)(K:W.Frag)(mg:Str→Option Value)(base:Heap)(cv:Nat→Value)(k:Nat)(x:Str)(m:Nat)(g:List D→M D):Prop:=
 ∃f fd ps,mg x=some (.ref f)∧PySem.W.keepIn K (.ref f)=true∧Binds K fd ps []∧FnOk P w K mg base (nv P w cv) k f fd ps (EB K cv m g)
section
variable{X:Cx}{Xw:Nat→Hp→Prop}{cv:Nat→Value}{k m:Nat}{g:List D→M D}{x:Str}{p pos:Pos}{e:Expr}{es:List Expr}{δs:DA}
def ak(m:Nat)(g:List D→M D)(δs:DA):DE:=fun ρ=>δs ρ>>=fun ds=>if ds.length=m then g ds else M.stuck
theorem aZ(F:ai X.prog X.w X.K X.mg X.base cv k x m g)(hr:Room k X.A)(hg:Gl X x)(hx:Passes (nv X.prog X.w cv) X (EX cv Xw))
 (ha:k7 X Xw (e::es) δs)(hl:(e::es).length=m)(pE:(x==("__debug__":Str))=false:=by decide)(he:starEach (e::es) X.env=(false,eval e X.env)::starEach es X.env:=by rfl)(nW:(backTo pos (starEach es X.env)).any (·.1)=false:=by rfl):
 PD X Xw (.Call (.Name x p) (e::es) [] pos) (ak m g δs):=by
 obtain⟨f,fd,ps,h1,h2,h3,h4⟩:=F
 exact A5 h4 hr hg h1 h2 h3 hx ha hl pE he nW
end
theorem aD{P:Program}{w:World}{K:W.Frag}{mg:Str→Option Value}{base:Heap}{cv:Nat→Value}{k:Nat}{x:Str}{st:Stmt}{f:Addr}{N ps:List Str}{τ:DS}(T:bD K mg x st f)(S:FnScope N ps (ag st))
 (JD:∀(kV doc pm:Value) (an:Option Addr) (cu ct:Value) (us:List Value),us.length=ps.length→bindArgs (PySem.W.fnOf x x (dz st) (bI st) (ag st) .none kV doc pm an cu ct) ⟨us,[]⟩=pure (ps.zip us))
 (rh:∀(cu:Value) (A:Around) (outer:List Env) (s:Shared) (H:Hp) (E:XK),Room k (A.deeper (envOfC x (ag st) s.heap.objs.size f cu))→
  PSDs (fF (nv P w cv) P w K mg base N x (ag st) f cu A outer s H E) (fun n H'=>E (cv n) none H') (bI st) τ):ai P w K mg base cv (k+1) x ps.length (b_ N.length τ):=by
 obtain⟨h1,fd,Fn⟩:=T
 exact⟨f,fd,ps,h1,Fn.kp,Fn.binds JD,E3 Fn S rh⟩
section
variable{X:Cx}{Xw:Nat→Hp→Prop}{a e:Expr}{δ:DE}{pos:Pos}
end
section
variable{X:Cx}{Xw:Nat→Hp→Prop}{pos:Pos}
theorem A9{x z:Str}(hg:Gl X x)(h:∃t,X.mg x=some (.str z t))(hz:z.length≤lim)(pE:(x==("__debug__":Str))=false:=by decide):PD X Xw (.Name x pos) (dC (.str z)):=by
 obtain⟨t,h⟩:=h
 exact vm (v:= .str z) hg h ⟨t,rfl⟩ (fun _=>⟨rfl,hz⟩) pE
theorem vn{x:Str}{i:Int}(hg:Gl X x)(h:∃t,X.mg x=some (.int i t))(pE:(x==("__debug__":Str))=false:=by decide):PD X Xw (.Name x pos) (dC (.int i)):=by
 obtain⟨t,h⟩:=h
 exact vm (v:= .int i) hg h ⟨t,rfl⟩ (fun _=>rfl) pE
end
def Bu(sc osc:Scope):Scope:={sc with names:=sc.names.map fun(n,k)=>if (k== .free&&osc.kind== .function&&osc.names.lookup n==some .cell) then(n, .cell) else(n,k)}
structure Box (p:Prop):Prop where
 out:p
section
variable{X:Cx}{Xw:Nat→Hp→Prop}{a:Expr}{δa:DE}{pos:Pos}
theorem sW{st:Stmt}{rest:List Stmt}{τ τ':DS}(h1:Box (iI X Xw st τ))(h2:Box (PSDs X Xw rest τ')):Box (PSDs X Xw (st::rest) (az τ τ')):=⟨af h1.out h2.out⟩
theorem Cy{st:Stmt}{τ:DS}(h1:Box (iI X Xw st τ)):Box (PSDs X Xw [st] τ):=⟨aj h1.out⟩
end
theorem Gz{l:PySem.W.OpenLaw}{n k:Nat}{q:Program}{loose:List Str}{XP:(Str→Option Value)→Heap→Prop}{YP:World→Heap→Prop}{d:DefRec}{K:Params→W.Frag}{x:Str}{g:List D→M D}
 (hn:l.most=some n)(Fp:n≤lim)(Fe:d.params.defaults=[])(hr:Room k callerA)
 (hY:∀(w:World) (h:Heap),YP w h→(K w.params).In h)(hg:∀ns:List Int,ns.length≤n→g [.scr ns]=M.ret (.bl true))
 (F:∀(w:World) (mg:Str→Option Value) (fa:Addr) (h:Heap),(K w.params).In h→h.Ns mainGlobals mg→mg d.name=some (.ref fa)→
  ∃(cv:Nat→Value) (fd:FuncData),(∀(s:Shared) (u:Value),BindsTo s fd ⟨[u],[]⟩ [(x,u)])∧
   ∀base:Heap,(K w.params).In base→base.Ns mainGlobals mg→FnOk l.prog w (K w.params) mg base (nv l.prog w cv) k fa fd [x] (EB (K w.params) cv 1 g)):
 PySem.W.WalkO q loose XP YP l.row.toRowW d [] (fun f vs=>PySem.call f vs):=by
 refine Att.attach_call hn Fe fun w s₀ s₁ mg mb fa o pm cd doc a vs ns G Y ho hd uV CV yl hints hlen KW=>?_
 have KX:=hY w _ Y
 obtain⟨cv,fd,hb,hF⟩:=F w mg fa _ KX G.T.g CV
 refine rn KX G.T.g G.T.b G.T.builtins G.T.nolimit KW yl hints (Nat.le_trans hlen (Nat.le_trans Fp (Nat.le_of_lt cf))) hr hF hb (fun H hO hS=>?_) fun H e s' z=>?_
 ·refine⟨H,[.scr ns],fun _ _ e=>e,⟨_,_,rfl,⟨a,rfl,hS,Nat.le_trans hlen Fp⟩,rfl⟩,rfl,?_⟩
  rw[hg ns hlen]
  exact fun v H' F' e q=>q
 ·obtain⟨_,_,_,_,_,_,_,_,_,_,_,_,_,_,y⟩:=z
section
variable{prog:Program}{w:World}{A:Around}{E:Value→Shared→Prop}{s:Shared}
end
section
variable{X:Cx}{Xw:Nat→Hp→Prop}{e Ko:Expr}{te ts:TE}{δ δs:DE}{pos p2:Pos}
variable{o:Expr}{δo:DE}{δl:DA}{apos bf:Pos}
end
namespace RV
end RV
section
variable{prog:Program}{w:World}{A:Around}{E:Value→Shared→Prop}{s:Shared}
end
section
variable{X:Cx}{Xw:Nat→Hp→Prop}{tg e:Expr}{es:List Expr}{δ δi:DE}{δs:DA}{pos p:Pos}
end
end L3
namespace L3
open PySem PySem.Spec L2 SeqAt HT
open PyProof.Rows hiding St
def tK:D→Option Key
 | .int i=>some (.inl i)
 | .str x=>some (.inr x)
 |_=>none
def pL:List D→Option (List Key)
 |[]=>some []
 |d::ds=>match tK d,pL ds with
  |some k,some ks=>some (k::ks)
  |_,_=>none
def dS:D→Option (List Key)
 | .tup ds=>pL ds
 |_=>none
theorem lL{K:W.Frag}{F:Hp}{d:D}{v:V}{k:Key}(e:tK d=some k)(h:Den K F d v):v=kV k:=by
 cases d<;>first | cases e | skip
 ·exact h
 ·exact h.1
theorem gh{K:W.Frag}{F:Hp}:∀{ds:List D}{vs:List V}{ks:List Key},pL ds=some ks→DenL K F ds vs→vs=ks.map kV
 |[],_,_,e,h=>by cases e;exact h
 |d::ds,_,_,e,⟨v,r,h1,h2,h3⟩=>by
  unfold pL at e
  split at e
  ·rename_i k ks e1 e2
   cases e
   subst h1
   rw[List.map_cons,lL e1 h2,gh e2 h3]
  ·cases e
section
variable{κ:Type}[DecidableEq κ]
def eF:List κ→List D→κ→Option D
 |k'::ks,d::ds,k=>if k'=k then some d else eF ks ds k
 |_,_,_=>none
def jQ:List κ→List D→κ→D→List D
 |k'::ks,d'::ds,k,d=>(if k'=k then d else d')::jQ ks ds k d
 |_,_,_,_=>[]
theorem jk{K:W.Frag}{F:Hp}:∀{ks:List κ}{ds:List D}{vs:List V}(k:κ),DenL K F ds vs→ks.length=ds.length→
 (match eF ks ds k with | some d=>∃v,jl (ks.zip vs) k=some v∧Den K F d v | none=>jl (ks.zip vs) k=none)
 |[],[],_,_,_,_=>rfl
 |k'::ks,d::ds,_,k,⟨v,r,h1,h2,h3⟩,hl=>by
  subst h1
  unfold eF
  rw[List.zip_cons_cons]
  by_cases e:k'=k
  ·rw[if_pos e,jo (p:=(k',v)) e]
   exact⟨v,rfl,h2⟩
  ·rw[if_neg e,jm (p:=(k',v)) e]
   exact jk k h3 (by simpa using hl)
 |[],_::_,_,_,_,hl=>by simp at hl
 |_::_,[],_,_,_,hl=>by simp at hl
theorem gM{K:W.Frag}{F:Hp}{ks:List κ}{ds:List D}{vs:List V}(k:κ)(h:DenL K F ds vs)(hl:ks.length=ds.length):(jl (ks.zip vs) k).isSome=(eF ks ds k).isSome:=by
 have:=jk k h hl
 split at this
 ·rename_i d e
  obtain⟨v,e1,_⟩:=this
  rw[e1,e];rfl
 ·rename_i e
  rw[this,e]
  rfl
theorem sd{K:W.Frag}{F:Hp}{d:D}{v:V}(hd:Den K F d v):∀{ks:List κ}{ds:List D}{vs:List V}(k:κ),DenL K F ds vs→ks.length=ds.length→
 ∃ws,(ks.zip vs).map (fun kv=>if kv.1=k then(kv.1,v) else kv)=ks.zip ws∧DenL K F (jQ ks ds k d) ws
 |[],[],_,_,h,_=>⟨[],rfl,rfl⟩
 |k'::ks,d'::ds,_,k,⟨v',r,h1,h2,h3⟩,hl=>by
  subst h1
  obtain⟨ws,e1,e2⟩:=sd hd k h3 (by simpa using hl)
  by_cases e:k'=k
  ·refine⟨v::ws,?_,?_⟩
   ·rw[List.zip_cons_cons,List.map_cons,e1,if_pos e];rfl
   ·unfold jQ;rw[if_pos e];exact .cons hd e2
  ·refine⟨v'::ws,?_,?_⟩
   ·rw[List.zip_cons_cons,List.map_cons,e1,if_neg e];rfl
   ·unfold jQ;rw[if_neg e];exact .cons h2 e2
 |[],_::_,_,_,_,hl=>by simp at hl
 |_::_,[],_,_,_,hl=>by simp at hl
theorem gu:∀(ks:List κ) (ds:List D) (k:κ) (d:D),ks.length=ds.length→(jQ ks ds k d).length=ds.length
 |[],[],_,_,_=>rfl
 |_::ks,_::ds,k,d,h=>by unfold jQ;rw[List.length_cons,List.length_cons,gu ks ds k d (by simpa using h)]
 |[],_::_,_,_,h=>by simp at h
 |_::_,[],_,_,h=>by simp at h
def cI(ks:List κ)(ds:List D)(k:κ):List κ:=if (eF ks ds k).isSome then ks else ks++[k]
def b5(ks:List κ)(ds:List D)(k:κ)(d:D):List D:=if (eF ks ds k).isSome then jQ ks ds k d else ds++[d]
theorem qc{K:W.Frag}{F:Hp}{d:D}{v:V}(hd:Den K F d v){ks:List κ}{ds:List D}{vs:List V}(k:κ)(h:DenL K F ds vs)(hl:ks.length=ds.length):
 ∃ws,putK (ks.zip vs) k v=(cI ks ds k).zip ws∧DenL K F (b5 ks ds k d) ws∧(cI ks ds k).length=(b5 ks ds k d).length:=by
 have hs:=gM (K:=K) (F:=F) k h hl
 unfold putK cI b5
 have ha:((ks.zip vs).any fun kv=>decide (kv.1=k))=(jl (ks.zip vs) k).isSome:=mP ..
 rw[ha,hs]
 cases e:(eF ks ds k).isSome with
 |true=>
  rw[if_pos rfl,if_pos rfl,if_pos rfl]
  obtain⟨ws,e1,e2⟩:=sd hd k h hl
  exact⟨ws,e1,e2,by rw[gu ks ds k d hl];exact hl⟩
 |false=>
  rw[if_neg Bool.false_ne_true,if_neg Bool.false_ne_true,if_neg Bool.false_ne_true]
  refine⟨vs++[v],?_,h.append (.cons hd .nil),by simp[hl]⟩
  rw[List.zip_append (by rw[hl];exact h.len)]
  rfl
end
theorem vJ{κ:Type}{K:W.Frag}{F:Hp}{ks:List κ}{ds:List D}{vs:List V}(h:DenL K F ds vs)(hl:ks.length=ds.length):(ks.zip vs).length=ds.length:=by
 rw[List.length_zip,hl,←h.len];omega
def mL(ρ:a5)(i:Nat):Option D:=match ρ[i]? with
 |some (some (.fz d))=>some d
 |some (some (.ow c))=>some c.d
 |_=>none
theorem zL{K:W.Frag}{F H:Hp}{σ:St}{ρ:a5}{i:Nat}{ks:List (List Key)}{ds:List D}(s:StE K F H σ ρ)(e:mL ρ i=some (.dct ks ds)):
 ∃a vs,σ[i]? =some (some (.ref a))∧Rd H a (.dT (ks.zip vs))∧DenL K F ds vs∧ks.length=ds.length∧ds.length≤lim:=by
 unfold mL at e
 split at e
 ·rename_i d e1
  cases e
  obtain⟨v,h1,a,ob,vs,rfl,h2,h3,h4,h5⟩:=s.den i _ e1
  exact⟨a,vs,h1, .inr ⟨ob,s.fh _ _ h2⟩,h3,h4,h5⟩
 ·rename_i c e1
  cases c<;>cases e
  obtain⟨v,h1,a,o,rfl,h2,_,vs,rfl,h3,h4,h5⟩:=s.den i _ e1
  exact⟨a,vs,h1, .inl h2,h3,h4,h5⟩
 ·cases e
theorem zK{K:W.Frag}{F H:Hp}{σ:St}{ρ:a5}{i:Nat}{ks:List Key}{ds:List D}(s:StE K F H σ ρ)(e:mL ρ i=some (.dci ks ds)):
 ∃a vs,σ[i]? =some (some (.ref a))∧Rd H a (.dK (ks.zip vs))∧DenL K F ds vs∧ks.length=ds.length∧ds.length≤lim:=by
 unfold mL at e
 split at e
 ·rename_i d e1
  cases e
  obtain⟨v,h1,a,ob,vs,rfl,h2,h3,h4,h5⟩:=s.den i _ e1
  exact⟨a,vs,h1, .inr ⟨ob,s.fh _ _ h2⟩,h3,h4,h5⟩
 ·rename_i c e1
  cases c<;>cases e
  obtain⟨v,h1,a,o,rfl,h2,_,vs,rfl,h3,h4,h5⟩:=s.den i _ e1
  exact⟨a,vs,h1, .inl h2,h3,h4,h5⟩
 ·cases e
def z5:D→D→Option (Option D)
 | .dct ks ds,k=>(dS k).map (eF ks ds)
 | .dci ks ds,k=>(tK k).map (eF ks ds)
 |_,_=>none
theorem uL{K:W.Frag}{F H:Hp}{σ:St}{ρ:a5}{i:Nat}{d k:D}{y:V}{o:Option D}(s:StE K F H σ ρ)(hi:mL ρ i=some d)(hk:Den K F k y)(e:z5 d k=some o):
 ∃a ov,σ[i]? =some (some (.ref a))∧mX H a y ov∧ov.isSome=o.isSome∧∀d',o=some d'→∃v,ov=some v∧Den K F d' v:=by
 unfold z5 at e
 split at e
 ·rename_i ks ds
  cases q:dS k with
  |none=>rw[q] at e;cases e
  |some kk=>
   rw[q] at e
   cases e
   obtain⟨a,vs,h1,h2,h3,h4,h5⟩:=zL s hi
   unfold dS at q
   split at q
   ·rename_i es
    obtain⟨b,ws,rfl,k2,k3,_⟩:=hk
    have e1:=gh q k3
    subst e1
    refine⟨a,_,h1, .inr ⟨_,kk,b,h2,rfl,s.fh _ _ k2,rfl⟩,gM kk h3 h4,fun d' sR=>?_⟩
    have:=jk (K:=K) (F:=F) kk h3 h4
    rw[sR] at this
    exact this
   ·cases q
 ·rename_i ks ds
  cases q:tK k with
  |none=>rw[q] at e;cases e
  |some kk=>
   rw[q] at e
   cases e
   obtain⟨a,vs,h1,h2,h3,h4,h5⟩:=zK s hi
   have e1:=lL q hk
   subst e1
   refine⟨a,_,h1, .inl ⟨_,kk,h2,rfl,rfl⟩,gM kk h3 h4,fun d' sR=>?_⟩
   have:=jk (K:=K) (F:=F) kk h3 h4
   rw[sR] at this
   exact this
 ·cases e
section
variable{X:Cx}{Xw:Nat→Hp→Prop}{a b:Expr}{δa δb:DE}{pos:Pos}
theorem FZ(ha:PD X Xw a δa)(hb:PD X Xw b δb):PD X Xw (.Compare a [.LtE] [b] pos) (d2 Ju δa δb):=mr me (ve fun _ _ _=>rfl) ha hb
end
section
variable{X:Cx}{Xw:Nat→Hp→Prop}{a e:Expr}{δ δk δv:DE}{pos p pos' jI apos bf:Pos}{x:Str}{i:Nat}
def EU(neg:Bool)(i:Nat)(δ:DE):DE:=fun ρ=>δ ρ>>=fun k=>match mL ρ i with
 |some d=>match z5 d k with
  |some o=>M.ret (.bl (if neg then !o.isSome else o.isSome))
  |none=>M.stuck
 |none=>M.stuck
theorem C8{neg:Bool}{σ:St}{H:Hp}{Q:VK}(h:tD X.K Xw (EU neg i δ) σ H Q):(fun σ H Q=>tD X.K Xw δ σ H fun y H1=>mN i σ H1 fun x H2=>∃a o,x= .ref a∧mX H2 a y o∧Q (.bl (if neg then !o.isSome else o.isSome)) H2) σ H Q:=by
 obtain⟨F,ρ,s,w⟩:=h
 refine⟨F,ρ,s,WP.mono (WP.bind w) fun y H1 ⟨F1,k,e1,q1,w1⟩=>?_⟩
 have s1:=s.ext e1
 cases hi:mL ρ i with
 |none=>rw[hi] at w1;exact w1.elim
 |some d=>
  rw[hi] at w1
  have w1:WP X.K Xw F1 H1 (match z5 d k with | some o=>M.ret (.bl (if neg then !o.isSome else o.isSome)) | none=>M.stuck) Q:=w1
  cases he:z5 d k with
  |none=>rw[he] at w1;exact w1.elim
  |some o=>
   rw[he] at w1
   obtain⟨a,ov,h1,h2,h3,_⟩:=uL s1 hi q1 he
   refine⟨.ref a,h1,a,ov,rfl,h2,?_⟩
   rw[h3]
   exact WP.now w1 e1.fh rfl
theorem IF(hu:X.A.units+64<cLine)(ha:PD X Xw a δ)(hv:PE X (.Name x p) (mN i))(hm:behindInMarks .In (.Name x p)=false:=by rfl):PD X Xw (.Compare a [.In] [.Name x p] pos) (EU false i δ):=
 PE.weak (DQ (DG (by omega) ha hv) hm) fun σ H Q h=>C8 (neg:=false) h
def vC(i:Nat):DS:=fun ρ=>M.ret (.nx (ρ.set i (some (.ow (.dct [] [])))))
theorem mz(hN:X.N.Nodup)(hi:X.N[i]? =some x)(hx:Loc X.env.scope x)(hf:X.fn x=true∨X.env.scope.names.lookup x=some .local:=by first | exact .inl rfl | exact .inr rfl):
 iI X Xw (.Assign [.Name x pos'] (.Dict [] [] jI) pos) (vC i):=fun F₀ H₀=>PS.weak (qb zb (bc hN hi hx hf) rfl) fun D σ H ⟨F,ρ,s,w⟩=>fun q hq=>
 w _ F _ (s.setNew (c₀:= .dct [] []) hq ⟨[],rfl,rfl,rfl,Nat.zero_le _⟩)
def jK:C→D→D→Option C
 | .dct ks ds,k,d=>match dS k with
   |some kk=>if ds.length<lim then some (.dct (cI ks ds kk) (b5 ks ds kk d)) else none
   |none=>none
 | .dci ks ds,k,d=>match tK k with
   |some kk=>if ds.length<lim then some (.dci (cI ks ds kk) (b5 ks ds kk d)) else none
   |none=>none
 |_,_,_=>none
def ua(ρ:a5)(i:Nat):Option C:=match ρ[i]? with
 |some (some (.ow c))=>some c
 |_=>none
theorem oG{ρ:a5}{i:Nat}{c:C}(h:ua ρ i=some c):ρ[i]? =some (some (.ow c)):=by
 unfold ua at h
 split at h
 ·rename_i c' e
  cases h
  exact e
 ·cases h
def ie(i:Nat)(δk δv:DE):DS:=fun ρ=>match ua ρ i with
 |some c=>δv ρ>>=fun v=>δk ρ>>=fun k=>match jK c k v with
  |some c'=>M.ret (.nx (ρ.set i (some (.ow c'))))
  |none=>M.stuck
 |none=>M.stuck
theorem oQ{κ:Type}[DecidableEq κ]{ks:List κ}{ds:List D}{k:κ}{d:D}(hl:ks.length=ds.length)(h:ds.length<lim):(b5 ks ds k d).length≤lim:=by
 unfold b5
 split
 ·rw[gu ks ds k d hl];omega
 ·rw[List.length_append];exact h
theorem zo{K:W.Frag}{F H:Hp}{c c':C}{k d:D}{y v:V}{o:HO}{b:Addr}(hs:Same F H)(hb:H b=some o)(hc:DenC K F c o)(hk:Den K F k y)(hd:Den K F d v)(e:jK c k d=some c'):∃o',DPut H b y v (upd H b o')∧DenC K F c' o':=by
 have CT:=cf
 unfold jK at e
 split at e
 ·rename_i ks ds k d
  obtain⟨vs,rfl,h3,h4,h5⟩:=hc
  split at e
  ·rename_i kk q
   split at e
   ·rename_i fX
    cases e
    unfold dS at q
    split at q
    ·rename_i es
     obtain⟨b2,ws,rfl,k2,k3,_⟩:=hk
     have e1:=gh q k3
     subst e1
     obtain⟨us,e2,e3,e4⟩:=qc hd kk h3 h4
     refine⟨_,DPut.t hb (hs _ _ k2) (by rw[vJ h3 h4];omega),us,?_,e3,e4,oQ h4 fX⟩
     rw[e2]
    ·cases q
   ·cases e
  ·cases e
 ·rename_i ks ds k d
  obtain⟨vs,rfl,h3,h4,h5⟩:=hc
  split at e
  ·rename_i kk q
   split at e
   ·rename_i fX
    cases e
    have e1:=lL q hk
    subst e1
    obtain⟨us,e2,e3,e4⟩:=qc hd kk h3 h4
    refine⟨_,DPut.k hb (by rw[vJ h3 h4];omega),us,?_,e3,e4,oQ h4 fX⟩
    rw[e2]
   ·cases e
  ·cases e
 ·cases e
theorem mB(hu:X.A.units+64<cLine)(hv:PE X (.Name x p) (mN i))(hk:PD X Xw a δk)(he:PD X Xw e δv)(hs:swapsWith e (some (.Subscript (.Name x p) a pos')) pos.line X.env=pure false:=by rfl):
 iI X Xw (.Assign [.Subscript (.Name x p) a pos'] e pos) (ie i δk δv):=fun F₀ H₀=>PS.weak (Bm (by omega) hv hk he hs) fun D σ H ⟨F,ρ,s,w⟩=>by
 unfold ie at w
 cases ho:ua ρ i with
 |none=>rw[ho] at w;exact w.elim
 |some c=>
  rw[ho] at w
  have hi:=oG ho
  have w:WPS X.K Xw F₀ H₀ (δv ρ>>=fun v=>δk ρ>>=fun k=>match jK c k v with | some c'=>M.ret (.nx (ρ.set i (some (.ow c')))) | none=>M.stuck) D:=w
  refine⟨F,ρ,s.st,?_⟩
  rcases(δv ρ).cs with q | ⟨n,q⟩ | ⟨dv,q⟩
  ·rw[q] at w;exact w.elim
  ·rw[q] at w⊢;exact fun F' H' e'=>w F' H' (s.ext.trans e')
  ·rw[q] at w⊢
   intro v H1 F1 e1 hq
   have s1:=s.ext' e1
   obtain⟨u,h1,b,o,rfl,h2,h3,h4⟩:=s1.st.den i _ hi
   have w:WPS X.K Xw F₀ H₀ (δk ρ>>=fun k=>match jK c k dv with | some c'=>M.ret (.nx (ρ.set i (some (.ow c')))) | none=>M.stuck) D:=w
   refine⟨.ref b,h1,F1,ρ,s1.st,?_⟩
   rcases(δk ρ).cs with q2 | ⟨n,q2⟩ | ⟨dk,q2⟩
   ·rw[q2] at w;exact w.elim
   ·rw[q2] at w⊢;exact fun F' H' e'=>w F' H' (s1.ext.trans e')
   ·rw[q2] at w⊢
    intro y H2 F2 e2 hy
    have w:WPS X.K Xw F₀ H₀ (match jK c dk dv with | some c'=>M.ret (.nx (ρ.set i (some (.ow c')))) | none=>M.stuck) D:=w
    cases hp:jK c dk dv with
    |none=>rw[hp] at w;exact w.elim
    |some c'=>
     rw[hp] at w
     have s2:=s1.ext' e2
     obtain⟨u2,k1,b2,o2,Ap,k2,k3,k4⟩:=s2.st.den i _ hi
     rw[h1] at k1
     cases k1
     cases Ap
     obtain⟨o',g,hc⟩:=zo s2.st.fh k2 k4 hy (Den.mono e2.ff hq) hp
     exact⟨b,_,rfl,g,w σ F2 _ (s2.chg hi h1 hc)⟩
end
def dX(c:DT)(body:DS):Nat→DS
 |0,_=>M.stuck
 |n+1,ρ=>c ρ>>=fun b=>if b then body ρ>>=fun o=>match o with | .nx ρ'=>dX c body n ρ' | .rt d=>M.ret (.rt d) else M.ret (.nx ρ)
def zH(c:DT)(body:DS):DS:=fun ρ=>dX c body lim ρ
section
variable{X:Cx}{Xw:Nat→Hp→Prop}{τ:DS}{tc:DT}{pos:Pos}
theorem wV{c:Expr}{body:List Stmt}(hp:PassesOwn (model X.prog X.w) X.A X.env X.xe)(hc:o8 X Xw c tc)(hb:PSDs X Xw body τ):iI X Xw (.While c body [] pos) (zH tc τ):=fun F₀ H₀=>PS.weak (zg hp hc hb.ex) fun D σ H ⟨F,ρ,s,w⟩=>by
 refine⟨fun m σ H=>∃F ρ,StOk X.K F₀ H₀ F H σ ρ∧WPS X.K Xw F₀ H₀ (dX tc τ m ρ) D,⟨lim,F,ρ,s,w⟩,?_⟩
 rintro m σ H ⟨F,ρ,s,w⟩
 cases m with
 |zero=>exact w.elim
 |succ m=>
  refine⟨F,ρ,s.st,?_⟩
  unfold dX at w
  match tc ρ,w with
  |none,w=>exact w
  |some (.ex n),w=>exact fun F' H' e'=>w F' H' (s.ext.trans e')
  |some (.ok false),w=>exact fun H' F' e'=>w σ F' H' (s.ext' e')
  |some (.ok true),w=>
   intro H' F' e'
   have w:WPS X.K Xw F₀ H₀ (τ ρ>>=fun o=>match o with | .nx ρ'=>dX tc τ m ρ' | .rt d=>M.ret (.rt d)) D:=w
   refine⟨fun σ' H'=>∃F' ρ',StOk X.K F₀ H₀ F' H' σ' ρ'∧WPS X.K Xw F₀ H₀ (dX tc τ m ρ') D,fun σ' H' h=>⟨m,Nat.lt_succ_self m,h⟩,F₀,H₀,F',ρ,s.ext' e',?_⟩
   match τ ρ,w with
   |none,w=>exact w
   |some (.ok (.nx ρ')),w=>exact fun σ' F' H' s'=>⟨F',ρ',s',w⟩
   |some (.ok (.rt d)),w=>exact w
   |some (.ex n),w=>exact w
end
def iT:List D→Option (List (List Key))
 |[]=>some []
 |d::ds=>match dS d,iT ds with
  |some k,some ks=>some (k::ks)
  |_,_=>none
theorem CD:∀{x y:D}{k k':Key}{n:Nat},tK x=some k→tK y=some k'→jq n x y=some (decide (k=k'))
 | .int i, .int j,_,_,n,e1,e2=>by
   cases e1;cases e2
   have:jq n (.int i) (.int j)=some (i==j):=by cases n<;>rfl
   rw[this]
   congr 1
   by_cases h:i=j
   ·subst h;simp
   ·simp[h]
 | .str x, .str y,_,_,n,e1,e2=>by
   cases e1;cases e2
   have:jq n (.str x) (.str y)=some (x==y):=by cases n<;>rfl
   rw[this]
   congr 1
   by_cases h:x=y
   ·subst h;simp
   ·simp[h]
 | .int i, .str y,_,_,n,e1,e2=>by
   cases e1;cases e2
   have:jq n (.int i) (.str y)=some false:=by cases n<;>rfl
   rw[this]
   simp
 | .str x, .int j,_,_,n,e1,e2=>by
   cases e1;cases e2
   have:jq n (.str x) (.int j)=some false:=by cases n<;>rfl
   rw[this]
   simp
 | .non,_,_,_,_,e1,_=>by cases e1
 | .bl _,_,_,_,_,e1,_=>by cases e1
 | .raw _,_,_,_,_,e1,_=>by cases e1
 | .exc _,_,_,_,_,e1,_=>by cases e1
 | .scr _,_,_,_,_,e1,_=>by cases e1
 | .tup _,_,_,_,_,e1,_=>by cases e1
 | .lst _,_,_,_,_,e1,_=>by cases e1
 | .dct _ _,_,_,_,_,e1,_=>by cases e1
 | .dci _ _,_,_,_,_,e1,_=>by cases e1
 |_, .non,_,_,_,_,e2=>by cases e2
 |_, .bl _,_,_,_,_,e2=>by cases e2
 |_, .raw _,_,_,_,_,e2=>by cases e2
 |_, .exc _,_,_,_,_,e2=>by cases e2
 |_, .scr _,_,_,_,_,e2=>by cases e2
 |_, .tup _,_,_,_,_,e2=>by cases e2
 |_, .lst _,_,_,_,_,e2=>by cases e2
 |_, .dct _ _,_,_,_,_,e2=>by cases e2
 |_, .dci _ _,_,_,_,_,e2=>by cases e2
theorem uR{n:Nat}:∀{xs ys:List D}{k k':List Key},pL xs=some k→pL ys=some k'→lu (jq n) xs ys=some (decide (k=k'))
 |[],[],_,_,e1,e2=>by cases e1;cases e2;rfl
 |x::xs,[],_,_,e1,e2=>by
  cases e2
  unfold pL at e1
  split at e1
  ·cases e1;simp[lu]
  ·cases e1
 |[],y::ys,_,_,e1,e2=>by
  cases e1
  unfold pL at e2
  split at e2
  ·cases e2;simp[lu]
  ·cases e2
 |x::xs,y::ys,_,_,e1,e2=>by
  unfold pL at e1 e2
  split at e1
  ·rename_i k ks q1 q2
   cases e1
   split at e2
   ·rename_i k' ks' q3 q4
    cases e2
    unfold lu
    rw[CD q1 q3,uR q2 q4]
    simp
   ·cases e2
  ·cases e1
theorem Al{x y:D}{k k':List Key}{n:Nat}(e1:dS x=some k)(e2:dS y=some k'):jq (n+1) x y=some (decide (k=k')):=by
 cases x with
 |tup xs=>
  cases y with
  |tup ys=>exact uR (n:=n) e1 e2
  |_=>cases e2
 |_=>cases e1
theorem yx{K:W.Frag}{F:Hp}{d:D}{v:V}{k:List Key}(e:dS d=some k)(h:Den K F d v):∃a,v= .ref a∧F a=some (.tup (k.map kV)):=by
 cases d with
 |tup ds=>
  obtain⟨a,vs,rfl,h2,h3,_⟩:=h
  have:=gh e h3
  subst this
  exact⟨a,rfl,h2⟩
 |_=>cases e
def jB(k:List Key)(ks:List (List Key)):Bool:=ks.any fun k'=>decide (k'=k)
open Classical in
noncomputable def isKey(H:Hp)(k:List Key)(u:Value):Bool:=decide (∃a,u= .ref a∧H a=some (.tup (k.map kV)))
theorem wc{K:W.Frag}{F H:Hp}{d:D}{v:V}{u:Value}{k k':List Key}(hs:Same F H)(e:dS d=some k')(h:Den K F d v)(r:RelV v u):isKey H k u=decide (k'=k):=by
 obtain⟨a,rfl,h2⟩:=yx e h
 cases (show u=_ from r)
 unfold isKey
 by_cases hk:k'=k
 ·subst hk
  rw[decide_eq_true rfl]
  exact @decide_eq_true _ (Classical.propDecidable _) ⟨a,rfl,hs _ _ h2⟩
 ·rw[decide_eq_false hk]
  refine @decide_eq_false _ (Classical.propDecidable _) fun⟨b,e1,e2⟩=>hk ?_
  cases e1
  rw[hs _ _ h2] at e2
  injection e2 with e2
  injection e2 with e2
  exact u3 e2
theorem fg{X:Cx}{pins:List (Addr×Obj)}{σ:St}{F H:Hp}{s:Shared}{A:Around}{x:D}{v:V}{u:Value}{k:List Key}(I:Inv X pins σ H s)(hs:Same F H)(hu:A.units+6<cLine)(ex:dS x=some k)(hx:Den X.K F x v)(rx:RelV v u):
 ∀{ys:List D}{vs:List V}{aA:List Value}{ks:List (List Key)},iT ys=some ks→DenL X.K F ys vs→Vals vs aA→aA.any (isKey H k)=jB k ks∧∀t∈aA,EqAt A s t u (isKey H k t)
 |[],_,_,_,e,h,r=>by
  cases e
  cases (show _=_ from h)
  cases r
  exact⟨rfl,fun t ht=>by cases ht⟩
 |y::ys,_,_,_,e,⟨w,ws,h1,h2,h3⟩,r=>by
  subst h1
  unfold iT at e
  split at e
  ·rename_i k' ks e1 e2
   cases e
   cases r with
   |cons r1 r2=>
    obtain⟨Io,Ip⟩:=fg I hs hu ex hx rx e2 h3 r2
    have hk:=wc (k:=k) hs e1 h2 r1
    refine⟨?_,fun t ht=>?_⟩
    ·rw[List.any_cons,Io,hk]
     rfl
    ·rcases List.mem_cons.mp ht with rfl | ht
     ·rw[hk]
      exact(pC I hs 6 A y x w v t u _ hu h2 hx r1 rx (Al e1 ex)).eq
     ·exact Ip t ht
  ·cases e
def m7(neg:Bool):D→D→M D
 |x, .lst ys=>match dS x,iT ys with
  |some k,some ks=>M.ret (.bl (if neg then !jB k ks else jB k ks))
  |_,_=>M.stuck
 |x, .tup ys=>match dS x,iT ys with
  |some k,some ks=>M.ret (.bl (if neg then !jB k ks else jB k ks))
  |_,_=>M.stuck
 |_,_=>M.stuck
def D_(K:W.Frag)(neg:Bool):R2:=fun x y H Q=>∃F dx ys vs p k ks,Same F H∧Den K F dx x∧dS dx=some k∧iT ys=some ks∧DenL K F ys vs∧y= .ref p∧(SqL K H p vs∨SqT K H p vs)∧Q (.bl (if neg then !jB k ks else jB k ks)) H
section
variable{X:Cx}{Xw:Nat→Hp→Prop}{a b:Expr}{δa δb:DE}{pos:Pos}
theorem Dv(hu:X.A.units+64<cLine):OpR X (compareOp .In) (D_ X.K false):=by
 intro pins s σ H x y v u Q I rx ry h
 obtain⟨F,dx,ys,vs,p,k,ks,hs,hx,ex,ek,hd,rfl,hq,q⟩:=h
 cases (show u=_ from ry)
 have Fx:X.A.in1.units+6<cLine:=by show X.A.units+1+6<cLine;omega
 rcases hq with hq | hq
 ·obtain⟨aA,r,pl,hz⟩:=I.list hq
  obtain⟨e1,e2⟩:=fg (A:=X.A.in1) I hs Fx ex hx rx ek hd r
  refine SeqAt.in_listAt (isKey H k) pl.isList (fun w hw=>e2 w (by simpa using hw)) ⟨.bl _,H,I,rfl,?_⟩
  rw[show aA.toArray.any (isKey H k)=aA.any (isKey H k) by simp,e1]
  exact q
 ·obtain⟨aA,r,pl,hz⟩:=I.tuple hq
  obtain⟨e1,e2⟩:=fg (A:=X.A.in1) I hs Fx ex hx rx ek hd r
  refine SeqAt.in_tupleAt (isKey H k) pl (fun w hw=>e2 w (by simpa using hw)) ⟨.bl _,H,I,rfl,?_⟩
  rw[show aA.toArray.any (isKey H k)=aA.any (isKey H k) by simp,e1]
  exact q
theorem wJ(hu:X.A.units+64<cLine):OpR X (compareOp .NotIn) (D_ X.K true):=by
 intro pins s σ H x y v u Q I rx ry h
 obtain⟨F,dx,ys,vs,p,k,ks,hs,hx,ex,ek,hd,rfl,hq,q⟩:=h
 cases (show u=_ from ry)
 have Fx:X.A.in1.units+6<cLine:=by show X.A.units+1+6<cLine;omega
 rcases hq with hq | hq
 ·obtain⟨aA,r,pl,hz⟩:=I.list hq
  obtain⟨e1,e2⟩:=fg (A:=X.A.in1) I hs Fx ex hx rx ek hd r
  refine SeqAt.notIn_listAt (isKey H k) pl.isList (fun w hw=>e2 w (by simpa using hw)) ⟨.bl _,H,I,rfl,?_⟩
  rw[show aA.toArray.any (isKey H k)=aA.any (isKey H k) by simp,e1]
  exact q
 ·obtain⟨aA,r,pl,hz⟩:=I.tuple hq
  obtain⟨e1,e2⟩:=fg (A:=X.A.in1) I hs Fx ex hx rx ek hd r
  refine SeqAt.notIn_tupleAt (isKey H k) pl (fun w hw=>e2 w (by simpa using hw)) ⟨.bl _,H,I,rfl,?_⟩
  rw[show aA.toArray.any (isKey H k)=aA.any (isKey H k) by simp,e1]
  exact q
theorem yp{neg:Bool}{K:W.Frag}:qF K (D_ K neg) (m7 neg):=fun Xw F H x y dx dy Q s hx hy w=>by
 unfold m7 at w
 split at w
 ·rename_i ys
  split at w
  ·rename_i k ks e1 e2
   obtain⟨p,vs,h1,h2,h3,_⟩:=hy
   exact⟨F,dx,ys,vs,p,k,ks,s,hx,e1,e2,h3,h1, .inl (SqL.of (s _ _ h2)),WP.now w s rfl⟩
  ·exact w.elim
 ·rename_i ys
  split at w
  ·rename_i k ks e1 e2
   obtain⟨p,vs,h1,h2,h3,_⟩:=hy
   exact⟨F,dx,ys,vs,p,k,ks,s,hx,e1,e2,h3,h1, .inr (SqT.of (s _ _ h2)),WP.now w s rfl⟩
  ·exact w.elim
 ·exact w.elim
theorem D5(hu:X.A.units+64<cLine)(ha:PD X Xw a δa)(hb:PD X Xw b δb)(hm:behindInMarks .In b=false:=by rfl):o8 X Xw (.Compare a [.In] [b] pos) (c0 (d2 (m7 false) δa δb)):=g0 (Dv hu) yp ha hb hm
theorem wX(hu:X.A.units+64<cLine)(ha:PD X Xw a δa)(hb:PD X Xw b δb)(hm:behindInMarks .NotIn b=false:=by rfl):o8 X Xw (.Compare a [.NotIn] [b] pos) (c0 (d2 (m7 true) δa δb)):=g0 (wJ hu) yp ha hb hm
end
end L3
namespace L3
open PySem PySem.W PyProof.Rows
def cP{α:Type}(b:Nat→Nat→Bool):KasT α→α
 | .ret a=>a
 | .ask i j k=>cP b (k (b i j))
theorem d6{α β:Type}(b:Nat→Nat→Bool)(f:α→KasT β):∀t:KasT α,cP b (t.bind f)=cP b (f (cP b t))
 | .ret _=>rfl
 | .ask i j k=>d6 b f (k (b i j))
structure Lt (n:Nat) (b:Nat→Nat→Bool):Prop where
 tr:∀i j k,b i j=true→b j k=true→b i k=true
 LZ:∀i j,b i j=true→b j i=false
 tot:∀i j,i<n→j<n→i≠j→b i j=true∨b j i=true
abbrev at'(p:Array Nat)(i:Nat):Nat:=p.getD i 0
def Ri(b:Nat→Nat→Bool)(p:Array Nat)(k:Nat):Prop:=∀i j,i<j→j<k→b (at' p i) (at' p j)=true
def Fa(b:Nat→Nat→Bool)(p:Array Nat)(k:Nat):Prop:=∀i j,i<j→j<k→b (at' p j) (at' p i)=true
structure PN (n:Nat) (p:Array Nat):Prop where
 sz:p.size=n
 lt:∀i,i<n→at' p i<n
 inj:∀i j,i<n→j<n→at' p i=at' p j→i=j
section
variable{n:Nat}{b:Nat→Nat→Bool}(L:Lt n b)
include L
theorem Ri.more{p:Array Nat}{k:Nat}(h:Ri b p k)(h1:1≤k)(e:b (at' p (k - 1)) (at' p k)=true):Ri b p (k+1):=fun i j uW hj=>by
 by_cases hk:j<k
 ·exact h i j uW hk
 ·have:j=k:=by omega
  subst this
  by_cases hi:i=j - 1
  ·subst hi;exact e
  ·exact L.tr _ _ _ (h i (j - 1) (by omega) (by omega)) e
theorem Fa.more{p:Array Nat}{k:Nat}(h:Fa b p k)(h1:1≤k)(e:b (at' p k) (at' p (k - 1))=true):Fa b p (k+1):=fun i j uW hj=>by
 by_cases hk:j<k
 ·exact h i j uW hk
 ·have:j=k:=by omega
  subst this
  by_cases hi:i=j - 1
  ·subst hi;exact e
  ·exact L.tr _ _ _ e (h i (j - 1) (by omega) (by omega))
theorem pb{p:Array Nat}(P:PN n p):∀(f k:Nat),1≤k→k+f≤n→Ri b p k→k≤cP b (kas_asc p f k)∧cP b (kas_asc p f k)≤k+f∧Ri b p (cP b (kas_asc p f k))∧(cP b (kas_asc p f k)<k+f→b (at' p (cP b (kas_asc p f k))) (at' p (cP b (kas_asc p f k) - 1))=true)
 |0,k,h1,hn,h=>⟨Nat.le_refl _,Nat.le_refl _,h,fun z=>absurd z (Nat.lt_irrefl _)⟩
 |f+1,k,h1,hn,h=>by
  have e:cP b (kas_asc p (f+1) k)=cP b (if b (at' p k) (at' p (k - 1))=true then KasT.ret k else kas_asc p f (k+1)):=rfl
  rw[e]
  by_cases hb:b (at' p k) (at' p (k - 1))=true
  ·rw[if_pos hb]
   exact⟨Nat.le_refl _,by show k≤_;omega,h,fun _=>hb⟩
  ·rw[if_neg hb]
   have hr:b (at' p (k - 1)) (at' p k)=true:=by
    rcases L.tot (at' p (k - 1)) (at' p k) (P.lt _ (by omega)) (P.lt _ (by omega)) (fun z=>by have:=P.inj _ _ (by omega) (by omega) z;omega) with q | q
    ·exact q
    ·exact absurd q hb
   obtain⟨a1,a2,a3,a4⟩:=pb P f (k+1) (by omega) (by omega) (Ri.more L h h1 hr)
   exact⟨by omega,by omega,a3,fun z=>a4 (by omega)⟩
theorem qU{p:Array Nat}(P:PN n p):∀(f k:Nat),1≤k→k+f≤n→Fa b p k→∃m,cP b (kas_desc f p k 0)=(p,m,0)∧k≤m∧m≤k+f∧Fa b p m
 |0,k,h1,hn,h=>⟨k,rfl,Nat.le_refl _,Nat.le_refl _,h⟩
 |f+1,k,h1,hn,h=>by
  have e:cP b (kas_desc (f+1) p k 0)=cP b (if b (at' p k) (at' p (k - 1))=true then(if 0>0 then kas_desc f (kas_rev p (k - (0+1)) k) (k+1) 0 else kas_desc f p (k+1) 0)
   else .ask (p.getD (k - 1) 0) (p.getD k 0) fun d=>if d=true then .ret (p,k,0) else kas_desc f p (k+1) (0+1)):=rfl
  rw[e]
  by_cases hb:b (at' p k) (at' p (k - 1))=true
  ·rw[if_pos hb,if_neg (by omega)]
   obtain⟨m,e1,e2,e3,e4⟩:=qU P f (k+1) (by omega) (by omega) (Fa.more L h h1 hb)
   exact⟨m,e1,by omega,by omega,e4⟩
  ·rw[if_neg hb]
   have hr:b (at' p (k - 1)) (at' p k)=true:=by
    rcases L.tot (at' p (k - 1)) (at' p k) (P.lt _ (by omega)) (P.lt _ (by omega)) (fun z=>by have:=P.inj _ _ (by omega) (by omega) z;omega) with q | q
    ·exact q
    ·exact absurd q hb
   refine⟨k,?_,Nat.le_refl _,by omega,h⟩
   show cP b (if b (at' p (k - 1)) (at' p k)=true then KasT.ret (p,k,0) else kas_desc f p (k+1) (0+1))=_
   rw[if_pos hr]
   rfl
end
theorem dn(p:Array Nat)(k:Nat):at' p k=(p[k]?).getD 0:=by
 unfold at'
 rw[Array.getD_eq_getD_getElem?]
theorem zB{p:Array Nat}{m:Nat}(hm:m≤p.size)(k:Nat):at' (kas_rev p 0 m) k=if k<m then at' p (m - 1 - k) else at' p k:=by
 have e:=getElem?_mirror_all (xs:=p) (i:=0) hm k
 rw[dn]
 show (((mirror p 0 m ((m - 0) / 2))[k]?).getD 0)=_
 rw[e]
 by_cases h:k<m
 ·rw[if_pos ⟨Nat.zero_le _,h⟩,if_pos h,dn,Nat.zero_add]
 ·rw[if_neg (fun z=>h z.2),if_neg h,dn]
theorem xA{p:Array Nat}{k l:Nat}(hk:k<p.size)(hl:l≤k)(j:Nat):at' (bubble p k (k - l)) j=if j=l then at' p k else if l<j∧j≤k then at' p (j - 1) else at' p j:=by
 have e:=getElem?_bubble hk (k - l) (by omega) j
 have e2:k - (k - l)=l:=by omega
 rw[e2] at e
 rw[dn (bubble p k (k - l)),e,dn p k,dn p (j - 1),dn p j]
 by_cases c1:j=l
 ·rw[if_pos c1,if_pos c1]
 ·rw[if_neg c1,if_neg c1]
  by_cases c2:l<j∧j≤k
  ·rw[if_pos c2,if_pos c2]
  ·rw[if_neg c2,if_neg c2]
section
variable{n:Nat}{b:Nat→Nat→Bool}
theorem PN.rev{p:Array Nat}(P:PN n p){m:Nat}(hm:m≤n):PN n (kas_rev p 0 m):=by
 have ha:=zB (p:=p) (m:=m) (by rw[P.sz];exact hm)
 refine⟨(mirror_size ..).trans P.sz,fun i hi=>?_,fun i j hi hj e=>?_⟩
 ·rw[ha]
  split
  ·exact P.lt _ (by omega)
  ·exact P.lt _ hi
 ·rw[ha,ha] at e
  split at e<;>split at e
  ·have:=P.inj _ _ (by omega) (by omega) e;omega
  ·have:=P.inj _ _ (by omega) hj e;omega
  ·have:=P.inj _ _ hi (by omega) e;omega
  ·exact P.inj _ _ hi hj e
theorem PN.bub{p:Array Nat}(P:PN n p){k l:Nat}(hk:k<n)(hl:l≤k):PN n (bubble p k (k - l)):=by
 have ha:=xA (p:=p) (k:=k) (l:=l) (by rw[P.sz];exact hk) hl
 refine⟨(bubble_size ..).trans P.sz,fun i hi=>?_,fun i j hi hj e=>?_⟩
 ·rw[ha]
  split
  ·exact P.lt _ hk
  ·split
   ·exact P.lt _ (by omega)
   ·exact P.lt _ hi
 ·rw[ha,ha] at e
  split at e
  ·split at e
   ·omega
   ·split at e
    ·have:=P.inj _ _ hk (by omega) e;omega
    ·have:=P.inj _ _ hk hj e;omega
  ·split at e
   ·split at e
    ·have:=P.inj _ _ (by omega) hk e;omega
    ·split at e
     ·have:=P.inj _ _ (by omega) (by omega) e;omega
     ·have:=P.inj _ _ (by omega) hj e;omega
   ·split at e
    ·have:=P.inj _ _ hi hk e;omega
    ·split at e
     ·have:=P.inj _ _ hi (by omega) e;omega
     ·exact P.inj _ _ hi hj e
theorem Fa.rev{p:Array Nat}(P:PN n p){m:Nat}(hm:m≤n)(h:Fa b p m):Ri b (kas_rev p 0 m) m:=fun i j uW hj=>by
 have ha:=zB (p:=p) (m:=m) (by rw[P.sz];exact hm)
 rw[ha,ha,if_pos (by omega),if_pos hj]
 exact h _ _ (by omega) (by omega)
variable(L:Lt n b)
include L
theorem zV{p:Array Nat}(P:PN n p){m:Nat}(h1:1≤m)(hm:m≤n)(h:Fa b p m):∃k q,cP b (kas_tail3 m n p)=(k,q)∧PN n q∧1≤k∧k≤n∧Ri b q k:=by
 unfold kas_tail3
 rw[d6]
 obtain⟨a1,a2,a3,_⟩:=pb L (P.rev hm) (n - m) m h1 (by omega) (Fa.rev P hm h)
 exact⟨_,_,rfl,P.rev hm,by omega,by omega,a3⟩
theorem vW{p:Array Nat}(P:PN n p)(h2:2≤n):∃k q,cP b (kas_count n p)=(k,q)∧PN n q∧1≤k∧k≤n∧Ri b q k:=by
 unfold kas_count
 rw[d6]
 obtain⟨a1,a2,a3,a4⟩:=pb L P (n - 1) 1 (Nat.le_refl _) (by omega) (fun i j uW hj=>by omega)
 generalize cP b (kas_asc p (n - 1) 1)=m at a1 a2 a3 a4
 by_cases he:m=n
 ·subst he
  rw[if_pos (by simp)]
  exact⟨m,p,rfl,P,by omega,Nat.le_refl _,a3⟩
 ·rw[if_neg (by simpa using he)]
  by_cases hg:m>1
  ·rw[if_pos hg]
   have hb:b (p.getD 0 0) (p.getD (m - 1) 0)=true:=a3 0 (m - 1) (by omega) (by omega)
   show∃k q,cP b (if b (p.getD 0 0) (p.getD (m - 1) 0)=true then KasT.ret (m,p) else kas_descPart m n (kas_rev p 0 m))=(k,q)∧_
   rw[if_pos hb]
   exact⟨m,p,rfl,P,by omega,by omega,a3⟩
  ·rw[if_neg hg]
   have hm:m=1:=by omega
   subst hm
   have hb:=a4 (by omega)
   unfold kas_descPart
   rw[d6]
   obtain⟨m,e1,e2,e3,e4⟩:=qU L P (n - (1+1)) (1+1) (by omega) (by omega) (fun i j uW hj=>by
    have hi:i=0:=by omega
    have hj:j=1:=by omega
    subst hi hj
    exact hb)
   rw[e1]
   dsimp only
   rw[if_neg (by omega)]
   exact zV L P (by omega) (by omega) e4
theorem jH{p:Array Nat}(P:PN n p){k:Nat}(hk:k<n)(h:Ri b p k):∀(f l r:Nat),l≤r→r≤k→r - l≤f→(∀i,i<l→b (at' p i) (at' p k)=true)→(∀i,r≤i→i<k→b (at' p k) (at' p i)=true)→
 cP b (kas_place p k f l r)≤k∧(∀i,i<cP b (kas_place p k f l r)→b (at' p i) (at' p k)=true)∧∀i,cP b (kas_place p k f l r)≤i→i<k→b (at' p k) (at' p i)=true
 |0,l,r,h1,h2,h3,h4,h5=>by
  have:r=l:=by omega
  subst this
  exact⟨h2,h4,h5⟩
 |f+1,l,r,h1,h2,h3,h4,h5=>by
  unfold kas_place
  by_cases JN:l≥r
  ·rw[if_pos JN]
   have:r=l:=by omega
   subst this
   exact⟨h2,h4,h5⟩
  ·rw[if_neg JN]
   have hm:(l+r) / 2<r:=by omega
   have Au:l≤(l+r) / 2:=by omega
   show cP b (if b (at' p k) (at' p ((l+r) / 2))=true then kas_place p k f l ((l+r) / 2) else kas_place p k f ((l+r) / 2+1) r)≤k∧(∀i,i<cP b (if b (at' p k) (at' p ((l+r) / 2))=true then kas_place p k f l ((l+r) / 2) else kas_place p k f ((l+r) / 2+1) r)→_)∧∀i,cP b (if b (at' p k) (at' p ((l+r) / 2))=true then kas_place p k f l ((l+r) / 2) else kas_place p k f ((l+r) / 2+1) r)≤i→_
   by_cases hb:b (at' p k) (at' p ((l+r) / 2))=true
   ·rw[if_pos hb]
    refine jH P hk h f l ((l+r) / 2) Au (by omega) (by omega) h4 fun i hi K0=>?_
    by_cases e:i=(l+r) / 2
    ·rw[e];exact hb
    ·exact L.tr _ _ _ hb (h _ _ (by omega) K0)
   ·rw[if_neg hb]
    have hr:b (at' p ((l+r) / 2)) (at' p k)=true:=by
     rcases L.tot (at' p ((l+r) / 2)) (at' p k) (P.lt _ (by omega)) (P.lt _ hk) (fun z=>by have:=P.inj _ _ (by omega) hk z;omega) with q | q
     ·exact q
     ·exact absurd q hb
    refine jH P hk h f ((l+r) / 2+1) r (by omega) h2 (by omega) (fun i hi=>?_) h5
    by_cases e:i=(l+r) / 2
    ·rw[e];exact hr
    ·exact L.tr _ _ _ (h i ((l+r) / 2) (by omega) (by omega)) hr
theorem uN:∀(f:Nat) {p:Array Nat}{k:Nat},PN n p→k+f≤n→Ri b p k→PN n (cP b (kas_bin f p k))∧Ri b (cP b (kas_bin f p k)) (k+f)
 |0,p,k,P,_,h=>⟨P,h⟩
 |f+1,p,k,P,hn,h=>by
  have hk:k<n:=by omega
  unfold kas_bin
  rw[d6]
  obtain⟨a1,a2,a3⟩:=jH L P hk h k 0 k (Nat.zero_le _) (Nat.le_refl _) (by omega) (fun i hi=>by omega) (fun i h1 h2=>by omega)
  generalize cP b (kas_place p k k 0 k)=l at a1 a2 a3
  have ha:=xA (p:=p) (k:=k) (l:=l) (by rw[P.sz];exact hk) a1
  have hR:Ri b (bubble p k (k - l)) (k+1):=fun i j uW hj=>by
   rw[ha,ha]
   by_cases c1:i=l
   ·rw[if_pos c1,if_neg (by omega),if_pos ⟨by omega,by omega⟩]
    exact a3 _ (by omega) (by omega)
   ·rw[if_neg c1]
    by_cases c2:j=l
    ·rw[if_pos c2,if_neg (by omega)]
     exact a2 _ (by omega)
    ·rw[if_neg c2]
     by_cases c3:l<i∧i≤k
     ·rw[if_pos c3,if_pos ⟨by omega,by omega⟩]
      exact h _ _ (by omega) (by omega)
     ·rw[if_neg c3]
      by_cases c4:l<j∧j≤k
      ·rw[if_pos c4]
       exact h _ _ (by omega) (by omega)
      ·rw[if_neg c4]
       exact h _ _ uW (by omega)
  have:=uN f (P.bub hk a1) (by omega) hR
  rw[show k+(f+1)=k+1+f by omega]
  exact this
theorem zN(h2:2≤n):PN n (cP b (kas_sort n))∧Ri b (cP b (kas_sort n)) n:=by
 have P0:PN n (List.toArray (List.range n)):=by
  have e:∀i,i<n→at' (List.toArray (List.range n)) i=i:=fun i hi=>by rw[dn];simp[hi]
  exact⟨by simp,fun i hi=>by rw[e i hi];exact hi,fun i j hi hj z=>by rw[e i hi,e j hj] at z;exact z⟩
 unfold kas_sort
 rw[d6]
 obtain⟨k,q,e,P,k1,kn,hR⟩:=vW L P0 h2
 rw[e]
 dsimp only
 by_cases fX:k<n
 ·rw[if_pos fX]
  have:=uN L (n - max k 1) (k:=max k 1) P (by omega) (by rw[show max k 1=k by omega];exact hR)
  rw[show max k 1+(n - max k 1)=n by omega] at this
  exact this
 ·rw[if_neg fX]
  have:k=n:=by omega
  subst this
  exact⟨P,hR⟩
end
def Asks{α:Type}(n:Nat)(P:α→Prop):KasT α→Prop
 | .ret a=>P a
 | .ask i j k=>i<n∧j<n∧∀c,Asks n P (k c)
theorem Asks.bind{α β:Type}{n:Nat}{P:α→Prop}{Q:β→Prop}{f:α→KasT β}:∀{t:KasT α},Asks n P t→(∀a,P a→Asks n Q (f a))→Asks n Q (t.bind f)
 | .ret a,h,hf=>hf a h
 | .ask i j k,h,hf=>⟨h.1,h.2.1,fun c=>Asks.bind (h.2.2 c) hf⟩
theorem wp_run{α:Type}{n:Nat}{P:α→Prop}{b:Nat→Nat→Bool}{cmp:Nat→Nat→(Bool→Shared→Prop)→Shared→Prop}{Q:α→Shared→Prop}{s:Shared}(hc:∀i j C,i<n→j<n→C (b i j) s→cmp i j C s):∀{t:KasT α},Asks n P t→Q (cP b t) s→t.kasWp cmp Q s
 | .ret a,_,h=>h
 | .ask i j k,ha,h=>hc i j _ ha.1 ha.2.1 (wp_run hc (ha.2.2 _) h)
def Below(n:Nat)(p:Array Nat):Prop:=∀x∈p,x<n
section
variable{n:Nat}(hn:0<n)
include hn
theorem Below.at{p:Array Nat}(h:Below n p)(i:Nat):at' p i<n:=by
 rw[dn]
 cases e:p[i]? with
 |none=>exact hn
 |some x=>exact h x (Array.mem_of_getElem? e)
theorem Below.rev{p:Array Nat}(h:Below n p)(i j:Nat):Below n (kas_rev p i j):=fun x hx=>h x ((mirror_perm p i j ((j - i) / 2)).mem_iff.mp hx)
theorem Below.bub{p:Array Nat}(h:Below n p)(k d:Nat):Below n (bubble p k d):=fun x hx=>h x ((bubble_perm p k d).mem_iff.mp hx)
theorem k9{p:Array Nat}(h:Below n p):∀f k,Asks n (fun _=>True) (kas_asc p f k)
 |0,k=>trivial
 |f+1,k=>⟨Below.at hn h _,Below.at hn h _,fun c=>by
  show Asks n _ (if c=true then KasT.ret k else kas_asc p f (k+1))
  cases c
  ·exact k9 h f (k+1)
  ·exact trivial⟩
theorem gO:∀f {p:Array Nat} k q,Below n p→Asks n (fun r=>Below n r.1) (kas_desc f p k q)
 |0,p,k,q,h=>h
 |f+1,p,k,q,h=>⟨Below.at hn h _,Below.at hn h _,fun c=>by
  cases c
  ·refine⟨Below.at hn h _,Below.at hn h _,fun d=>?_⟩
   cases d
   ·exact gO f _ _ h
   ·exact h
  ·show Asks n _ (if q>0 then kas_desc f (kas_rev p (k - (q+1)) k) (k+1) 0 else kas_desc f p (k+1) 0)
   split
   ·exact gO f _ _ (Below.rev hn h _ _)
   ·exact gO f _ _ h⟩
theorem nz{p:Array Nat}(h:Below n p)(m r:Nat):Asks n (fun x=>Below n x.2) (kas_tail3 m r p):=Asks.bind (k9 hn (Below.rev hn h 0 m) _ _) fun _ _=>Below.rev hn h 0 m
theorem k_{p:Array Nat}(h:Below n p)(m r:Nat):Asks n (fun x=>Below n x.2) (kas_descPart m r p):=Asks.bind (gO hn _ _ _ h) fun x hx=>by
 split
 ·exact nz hn (Below.rev hn hx _ _) _ _
 ·exact nz hn hx _ _
theorem sU{p:Array Nat}(h:Below n p)(r:Nat):Asks n (fun x=>Below n x.2) (kas_count r p):=Asks.bind (k9 hn h _ _) fun m _=>by
 split
 ·exact h
 ·split
  ·refine⟨Below.at hn h _,Below.at hn h _,fun c=>?_⟩
   cases c
   ·exact k_ hn (Below.rev hn h _ _) _ _
   ·exact h
  ·exact k_ hn h _ _
theorem ij{p:Array Nat}(h:Below n p)(k:Nat):∀f l r,Asks n (fun _=>True) (kas_place p k f l r)
 |0,l,r=>trivial
 |f+1,l,r=>by
  unfold kas_place
  split
  ·exact trivial
  ·refine⟨Below.at hn h _,Below.at hn h _,fun c=>?_⟩
   cases c
   ·exact ij h k f _ _
   ·exact ij h k f _ _
theorem qI:∀f {p:Array Nat} k,Below n p→Asks n (fun _=>True) (kas_bin f p k)
 |0,p,k,h=>trivial
 |f+1,p,k,h=>Asks.bind (ij hn h k _ _ _) fun l _=>qI f _ (Below.bub hn h _ _)
theorem vM:Asks n (fun _=>True) (kas_sort n):=by
 have h0:Below n (List.toArray (List.range n)):=fun x hx=>by simpa using hx
 refine Asks.bind (sU hn h0 n) fun x hx=>?_
 split
 ·exact qI hn _ _ hx
 ·exact trivial
end
def dh:List Int→List Int→Bool
 |[],[]=>false
 |[],_::_=>true
 |_::_,[]=>false
 |x::xs,y::ys=>if x=y then dh xs ys else decide (x<y)
theorem pN:∀a b c:List Int,dh a b=true→dh b c=true→dh a c=true
 |[],[],_,h,_=>by cases h
 |[],_::_,[],_,h=>by cases h
 |[],_::_,_::_,_,_=>rfl
 |_::_,[],_,h,_=>by cases h
 |_::_,_::_,[],_,h=>by cases h
 |x::a,y::b,z::c,h1,h2=>by
  unfold dh at h1 h2⊢
  by_cases e1:x=y
  ·subst e1
   rw[if_pos rfl] at h1
   by_cases e2:x=z
   ·subst e2
    rw[if_pos rfl] at h2⊢
    exact pN a b c h1 h2
   ·rw[if_neg e2] at h2⊢
    exact h2
  ·rw[if_neg e1] at h1
   have h1:=of_decide_eq_true h1
   by_cases e2:y=z
   ·subst e2
    rw[if_neg e1]
    exact decide_eq_true h1
   ·rw[if_neg e2] at h2
    have h2:=of_decide_eq_true h2
    rw[if_neg (by omega)]
    exact decide_eq_true (by omega)
theorem iU:∀a b:List Int,dh a b=true→dh b a=false
 |[],[],h=>by cases h
 |[],_::_,_=>rfl
 |_::_,[],h=>by cases h
 |x::a,y::b,h=>by
  unfold dh at h⊢
  by_cases e:x=y
  ·subst e
   rw[if_pos rfl] at h⊢
   exact iU a b h
  ·rw[if_neg e] at h
   have h:=of_decide_eq_true h
   rw[if_neg (fun z=>e z.symm)]
   exact decide_eq_false (by omega)
theorem lO:∀a b:List Int,a≠b→dh a b=true∨dh b a=true
 |[],[],h=>absurd rfl h
 |[],_::_,_=> .inl rfl
 |_::_,[],_=> .inr rfl
 |x::a,y::b,h=>by
  unfold dh
  by_cases e:x=y
  ·subst e
   rw[if_pos rfl,if_pos rfl]
   exact lO a b fun z=>h (by rw[z])
  ·rw[if_neg e,if_neg (fun z=>e z.symm)]
   by_cases q:x<y
   ·exact .inl (decide_eq_true q)
   ·exact .inr (decide_eq_true (by omega))
section
variable{prog:Program}{w:World}{A:Around}{E:Value→Shared→Prop}{s:Shared}
theorem rq{Q:Bool→Shared→Prop}:∀{us vs:List Value}{xs ys:List Int}(i:Nat) {fin:Bool},IntsAre us xs→IntsAre vs ys→fin=decide (xs.length<ys.length)→Q (dh xs ys) s→KatLex prog w A true fin Q (us.zip vs) i s
 |_,_,_,_,i,_, .nil, .nil,e,h=>by subst e;exact kat_nil h
 |_,_,_,_,i,_, .nil, .cons y t r,e,h=>by subst e;exact kat_nil h
 |_,_,_,_,i,_, .cons x t r, .nil,e,h=>by subst e;exact kat_nil h
 |_,_,_,_,i,_, .cons (vs:=us) (ns:=xs) x t r, .cons (vs:=vs) (ns:=ys) y u r',e,h=>by
  refine kat_cons (wpAny_eqBool_int ?_)
  by_cases q:x=y
  ·subst q
   rw[show (x==x)=true by simp]
   refine kat_yes (rq (i+1) r r' (by rw[e];simp) ?_)
   unfold dh at h
   rw[if_pos rfl] at h
   exact h
  ·rw[show (x==y)=false by simpa using q]
   unfold dh at h
   rw[if_neg q] at h
   refine kat_no ?_
   by_cases hi:(i==0)=true
   ·rw[hi]
    exact oneLt_int h
   ·rw[show (i==0)=false by simpa using hi]
    exact kat_one _ _ (PyProof.Rows.lt_int h)
def TupsAt(h:Heap):List Value→List (List Int)→Prop
 |[],[]=>True
 |v::vs,k::ks=>(∃a o us m,v= .ref a∧h.get? a=some o∧o.cls= .type "tuple"∧o.data= .seq (List.toArray us) m∧IntsAre us k∧k≠[])∧TupsAt h vs ks
 |_,_=>False
theorem TupsAt.len{h:Heap}:∀{vs:List Value}{ks:List (List Int)},TupsAt h vs ks→vs.length=ks.length
 |[],[],_=>rfl
 |v::vs,k::ks,t=>by rw[List.length_cons,List.length_cons,TupsAt.len t.2]
 |[],_::_,t=>t.elim
 |_::_,[],t=>t.elim
theorem TupsAt.get{h:Heap}:∀{vs:List Value}{ks:List (List Int)}{i:Nat},TupsAt h vs ks→i<vs.length→∃a o us m,vs.getD i Value.none= .ref a∧h.get? a=some o∧o.cls= .type "tuple"∧o.data= .seq (List.toArray us) m∧IntsAre us (ks.getD i [])∧ks.getD i []≠[]
 |v::vs,k::ks,0,t,_=>t.1
 |v::vs,k::ks,i+1,t,hi=>TupsAt.get (i:=i) t.2 (by simpa using hi)
 |[],_,_,_,hi=>by simp at hi
 |_::_,[],_,t,_=>t.elim
theorem TupsAt.keep{h h':Heap}{a:Addr}(k:∀b o,b≠a→h.get? b=some o→h'.get? b=some o)(ha:∀o,h.get? a=some o→o.cls≠ .type "tuple"):∀{vs:List Value}{ks:List (List Int)},TupsAt h vs ks→TupsAt h' vs ks
 |[],[],_=>trivial
 |v::vs,x::ks,⟨⟨b,o,us,m,e1,e2,e3,e4⟩,t⟩=>⟨⟨b,o,us,m,e1,k b o (fun z=>ha o (by rw[←z];exact e2) e3) e2,e3,e4⟩,TupsAt.keep k ha t⟩
 |[],_::_,t=>t.elim
 |_::_,[],t=>t.elim
theorem lF:∀{us:List Value}{xs:List Int},IntsAre us xs→us.length=xs.length
 |_,_, .nil=>rfl
 |_,_, .cons x t r=>by rw[List.length_cons,List.length_cons,lF r]
theorem TupsAt.firsts{M:Model}{h:Heap}:∀{vs:List Value}{ks:List (List Int)},TupsAt h vs ks→∃fs,KatTups h vs fs∧fs.length=vs.length∧∀v∈fs,Looks M h (typeOf v) (.type "int")
 |[],[],_=>⟨[],KatTups.nil,rfl,fun _ z=>by cases z⟩
 |v::vs,k::ks,⟨⟨a,o,us,m,e1,e2,e3,e4,e5,e6⟩,t⟩=>by
  obtain⟨fs,q1,q2,q3⟩:=TupsAt.firsts (M:=M) t
  subst e1
  cases e5 with
  |nil=>exact absurd rfl e6
  |cons x t r=>
   refine⟨.int x t::fs,KatTups.cons e2 e3 e4 (by simp) q1,by simp[q2],fun v hv=>?_⟩
   rcases List.mem_cons.mp hv with rfl | hv
   ·exact show Looks M h (pure (Value.type "int")) (Value.type "int") from .now
   ·exact q3 v hv
 |[],_::_,t=>t.elim
 |_::_,[],t=>t.elim
theorem asked{vs:List Value}{ks:List (List Int)}(t:TupsAt s.heap vs ks)(i j:Nat)(C:Bool→Shared→Prop)(hi:i<vs.length)(hj:j<vs.length)(h:C (dh (ks.getD i []) (ks.getD j [])) s):kas_ask prog w A (tuples' true) vs i j C s:=by
 obtain⟨a,o,us,m,e1,e2,_,e4,e5,_⟩:=t.get hi
 obtain⟨a',o',Mg,m',xm,Et,_,Kk,Jp,_⟩:=t.get hj
 unfold kas_ask
 rw[e1,xm]
 refine kat_lt e2 e4 Et Kk (rq 0 e5 Jp ?_ h)
 rw[List.size_toArray,List.size_toArray,lF e5,lF Jp]
theorem yH{α:Type}{l:List α}(h:l.Nodup){i j:Nat}(hi:i<l.length)(hj:j<l.length)(e:l[i]=l[j]):i=j:=by
 rcases Nat.lt_trichotomy i j with q | q | q
 ·exact absurd e (List.pairwise_iff_getElem.mp h i j hi hj q)
 ·exact q
 ·exact absurd e.symm (List.pairwise_iff_getElem.mp h j i hj hi q)
theorem oX{a:Addr}{c:Nat}{vs:List Value}{ks:List (List Int)}{P:PySem.Fin→Shared→Prop}(ho:s.heap.get? a=some (seqObj "list" vs.toArray c))(ht:TupsAt s.heap vs ks)(hd:ks.Nodup)(GK:vs.length<64)
 (h:∀(p:Array Nat) (h':Heap) (c':Nat),PN vs.length p→Ri (fun i j=>dh (ks.getD i []) (ks.getD j [])) p vs.length→h'.get? a=some (seqObj "list" (List.toArray (p.toList.map fun i=>vs.getD i Value.none)) c')→
  (∀b o,b≠a→s.heap.get? b=some o→h'.get? b=some o)→P (.done (.ret .none)) {s with heap:=h'}):wpAny (model prog w) A (Builtin.«list.sort» ⟨[.ref a],[]⟩) P E s:=by
 have xp:sizeLine=16777216:=sizeLine_eq
 have s1:=Heap.SameBut.update s.heap a (Obj.mapSeq fun _=>(#[]:Array Value))
 obtain⟨e1,JQ⟩:∃e1,(s.heap.update a (Obj.mapSeq fun _=>(#[]:Array Value))).get? a=some (seqObj "list" #[] e1):=⟨_,get?_update_seq ho fun _=> #[]⟩
 have k1:∀b o,b≠a→s.heap.get? b=some o→(((s.heap.update a (Obj.mapSeq fun _=>(#[]:Array Value))).push (seqObj "tuple" vs.toArray 0)).push (seqObj "list" #[] 0)).get? b=some o:=fun b o hb e=>
  Heap.get?_push_of_some _ (Heap.get?_push_of_some _ ((s1.2 b hb).trans e))
 have HR:=Heap.get?_push_of_some (seqObj "list" #[] 0) (Heap.get?_push_of_some (seqObj "tuple" vs.toArray 0) JQ)
 have t3:=ht.keep k1 (fun o e z=>by rw[ho] at e;cases e;exact absurd (Value.type.inj z) (by decide))
 have fin:∀(st:SortSt) (p:Array Nat),PN vs.length p→Ri (fun i j=>dh (ks.getD i []) (ks.getD j [])) p vs.length→(arrOf st).map (·.2)=List.toArray (p.toList.map fun i=>vs.getD i Value.none)→failedOf st=none→
  wpAny (model prog w) A (do
   let touched:=(←seqEpoch a) !=e1
   Builtin.List.listUpdate (.ref a) fun _=>(arrOf st).map (·.2)
   if let some e:=failedOf st then rule "list.sort.comparison-raised";throw e
   if touched then rule "list.sort.modified";raiseError "ValueError" "list modified during sort"
   ret .none) P E {s with heap:=((s.heap.update a (Obj.mapSeq fun _=>(#[]:Array Value))).push (seqObj "tuple" vs.toArray 0)).push (seqObj "list" #[] 0)}:=fun st p hp hr he hf=>by
  have hz:(List.toArray (p.toList.map fun i=>vs.getD i Value.none)).size=vs.length:=by rw[List.size_toArray,List.length_map,Array.length_toList,hp.sz]
  rw[he,hf]
  refine wpAny_bind (seqEpoch_at HR rfl (wpAny_bind (listUpdate_at HR rfl ?_ (Nat.zero_le _) (by rw[hz,xp];omega))))
  simp only[bne_self_eq_false,Bool.false_eq_true,if_false]
  have s2:=Heap.SameBut.update (((s.heap.update a (Obj.mapSeq fun _=>(#[]:Array Value))).push (seqObj "tuple" vs.toArray 0)).push (seqObj "list" #[] 0)) a (Obj.mapSeq fun _=>List.toArray (p.toList.map fun i=>vs.getD i Value.none))
  exact wpAny_pure (h p _ _ hp hr (get?_update_seq HR fun _=>List.toArray (p.toList.map fun i=>vs.getD i Value.none)) fun b o hb e=>(s2.2 b hb).trans (k1 b o hb e))
 rw[list_sort_plain]
 refine wpAny_bind (listItems_at ho rfl (wpAny_bind (listUpdate_at ho rfl (wpAny_bind (seqEpoch_at JQ rfl ?_)) (by rw[List.size_toArray,xp];omega) (Nat.zero_le _))))
 refine wpAny_bind (wpAny_newTuple (wpAny_bind (wpAny_newList (wpAny_holding ?_) (Nat.zero_le _))) (by show vs.length≤_;rw[xp];omega))
 show wpAny (model prog w) A _ P E {s with heap:=((s.heap.update a (Obj.mapSeq fun _=>(#[]:Array Value))).push (seqObj "tuple" vs.toArray 0)).push (seqObj "list" #[] 0)}
 dsimp only
 by_cases hs:vs.toArray.size<2
 ·rw[if_pos hs,if_pos hs]
  have z9:vs.length<2:=by simpa using hs
  refine wpAny_bind (wpAny_pure (wpAny_bind (wpAny_pure ?_)))
  refine fin (SortSt.mk' general' (vs.toArray.zip vs.toArray) #[] 7 none) (List.toArray (List.range vs.length)) ⟨by simp,fun i hi=>?_,fun i j hi hj _=>by omega⟩ (fun i j uW hj=>by omega) ?_ rfl
  ·rw[dn];simp[hi]
  ·show (vs.toArray.zip vs.toArray).map (·.2)=_
   apply Array.toList_inj.mp
   refine List.ext_getElem (by simp) fun i a1 a2=>?_
   simp at a1
   simp[a1]
 ·rw[if_neg hs,if_neg hs]
  have z9:2≤vs.length:=by
   have:¬vs.length<2:=by simpa using hs
   omega
  obtain⟨fs,q1,q2,q3⟩:=t3.firsts (M:=model prog w)
  refine wpAny_bind (kat_kind q1 (by omega) q3 rfl ?_)
  have hb:Lt vs.length (fun i j=>dh (ks.getD i []) (ks.getD j [])):=⟨fun i j k=>pN _ _ _,fun i j=>iU _ _,fun i j hi hj uW=>lO _ _ fun z=>uW (by
   rw[ht.len] at hi hj
   rw[List.getD_eq_getElem?_getD,List.getD_eq_getElem?_getD,List.getElem?_eq_getElem hi,List.getElem?_eq_getElem hj] at z
   exact yH hd hi hj (by simpa using z))⟩
  obtain⟨r1,r2⟩:=zN hb z9
  have run:=kat_run (prog:=prog) (w:=w) (A:=A) (E:=E) (ks:=vs) (vs:=vs) (κ:=tuples' true) (Q:=fun st s'=>s'={s with heap:=((s.heap.update a (Obj.mapSeq fun _=>(#[]:Array Value))).push (seqObj "tuple" vs.toArray 0)).push (seqObj "list" #[] 0)}∧∃p,PN vs.length p∧Ri (fun i j=>dh (ks.getD i []) (ks.getD j [])) p vs.length∧(arrOf st).map (·.2)=List.toArray (p.toList.map fun i=>vs.getD i Value.none)∧failedOf st=none)
   (G:=fun p s'=>s'={s with heap:=((s.heap.update a (Obj.mapSeq fun _=>(#[]:Array Value))).push (seqObj "tuple" vs.toArray 0)).push (seqObj "list" #[] 0)}∧PN vs.length p∧Ri (fun i j=>dh (ks.getD i []) (ks.getD j [])) p vs.length) rfl z9 GK
   (fun p mM s' a1 a2 a3 a4=>⟨a4.1,p,a4.2.1,a4.2.2,kat_snds rfl a2,a3⟩)
   (wp_run (s:={s with heap:=((s.heap.update a (Obj.mapSeq fun _=>(#[]:Array Value))).push (seqObj "tuple" vs.toArray 0)).push (seqObj "list" #[] 0)}) (fun i j C hi hj hC=>asked t3 i j C hi hj hC) (vM (by omega)) ⟨rfl,r1,r2⟩)
  refine wpAny_bind (wpAny_mono run ?_ fun _ _ e=>e)
  rintro⟨⟨⟩,mM⟩ s' ⟨rfl,p,a1,a2,a3,a4⟩
  exact fin mM p a1 a2 a3 a4
end
section
variable{prog:Program}{w:World}{A:Around}{E:Value→Shared→Prop}{s:Shared}
theorem n6{d:Addr}{od:Obj}{es:Array DictEntry}{ep:Nat}{Q:Value→Shared→Prop}(lo:(d==sysModules)=false)(ho:s.heap.get? d=some od)(hx:od.ExactDict)(hd:od.data= .dict es ep)
 (hQ:Q (.ref s.heap.objs.size) {s with heap:=s.heap.push {cls:= .type "dict_keyiterator",data:= .fields #[.ref d, .int 0 0, .int es.size 0, .int ep 0]} }):wpAny (model prog w) A (pyIter (.ref d)) Q E s:=by
 have hT:s.TypeIs (.ref d) "dict":=⟨od,ho,hx.1⟩
 refine wpAny_pyIter_slot hT F.slot_dict_iter (wpAny_call_entry F.slot_dict_iter hT F.entry_dict_iter ?_ (F.args_dict_iter_1 _))
 unfold Builtin.«dict.__iter__» Builtin.Dict.dictSlotNone
 refine wpAny_bind (wpAny_bind (wpAny_notOrdered_dict hT ?_))
 show wpAny _ _ (pure (Value.ref d)) _ _ s
 refine wpAny_pure ?_
 show wpAny _ _ (Builtin.Dict.showsAll d>>=_) _ _ s
 unfold Builtin.Dict.showsAll
 rw[if_neg (by rw[lo];exact Bool.false_ne_true)]
 refine wpAny_bind (wpAny_pure (wpAny_bind (wpAny_dictEntries ho hd (wpAny_bind (wpAny_dictEpoch ho hd ?_)))))
 refine wpAny_bind (wpAny_newObj_type (wpAny_pure ⟨_,rfl,"dict_keyiterator",_,⟨_,Heap.get?_push_size _ rfl,rfl⟩,F.slot_dict_keyiterator_next.lookup,?_⟩))
 simpa[rawInt] using hQ
theorem rD{it d:Addr}{od:Obj}{es:Array DictEntry}{i ep:Nat}{e:DictEntry}{Q:Option Value→Shared→Prop}(hit:s.heap.IsKeyIter it d i es.size ep)(v_:s.heap.get? d=some od)(kL:od.data= .dict es ep)(hx:es[i]? =some e)
 (hQ:∀h',h'.IsKeyIter it d (i+1) es.size ep→Heap.SameBut it s.heap h'→Q (some e.key) {s with heap:=h'}):wpAny (model prog w) A (pyNext (.ref it)) Q E s:=by
 obtain⟨o,ho,hc,hd⟩:=id hit
 have fX:i<es.size:=(Array.getElem?_eq_some_iff.mp hx).1
 have C2:Builtin.Dict_items.ownsTuple "dict_keyiterator"=false:=by decide
 unfold pyNext
 refine wpAny_bind (wpAny_attempt (wpAny_callSpecial?_slot (name:=Str.ofString "__next__") hit.typeIs F.slot_dict_keyiterator_next
  (wpAny_call_entry F.slot_dict_keyiterator_next hit.typeIs F.entry_dict_keyiterator_next ?_ (F.args_dict_keyiterator_next_1 _))))
 refine wpAny_bind (wpAny_pure (wpAny_bind (wpAny_bind ?_)))
 first | refine wpAny_bind (wpAny_typeNameOfWhole_keyiter hit.typeIs (wpAny_pure ?_)) | refine wpAny_bind (wpAny_typeNameOf_keyiter hit.typeIs (wpAny_pure ?_))
 refine wpAny_bind (wpAny_fieldsOf ho hd ?_)
 simp only[C2,Bool.false_eq_true,if_false]
 show wpAny _ _ (if (Value.ref d==Value.none)=true then _ else _) _ _ s
 rw[if_neg (show¬((Value.ref d==Value.none)=true) from Bool.false_ne_true)]
 refine wpAny_bind (wpAny_pure (wpAny_bind (wpAny_dictEntries v_ kL ?_)))
 rw[if_neg (by simp)]
 refine wpAny_bind (wpAny_pure (wpAny_bind (wpAny_dictEpoch v_ kL ?_)))
 rw[if_neg (by simp)]
 refine wpAny_pure ?_
 simp only[show¬((i:Int)<0) from by omega,if_false,Int.toNat_natCast,hx]
 refine wpAny_bind ?_
 first | refine wpAny_bind (wpAny_typeNameOfWhole_keyiter hit.typeIs (wpAny_pure ?_)) | refine wpAny_bind (wpAny_typeNameOf_keyiter hit.typeIs (wpAny_pure ?_))
 refine wpAny_bind (wpAny_isOneOf_keyiter hit.typeIs ?_)
 show wpAny _ _ (setField (.ref it) 1 (rawInt ((i:Int)+1))>>=_) _ _ s
 refine wpAny_bind (wpAny_setField ho hd (by simp) ?_)
 have Ar:(s.heap.update it (Obj.mapFields (·.setIfInBounds 1 (rawInt ((i:Int)+1))))).IsKeyIter it d (i+1) es.size ep:=
  ⟨_,Heap.get?_update_self _ ho (Obj.isFreed_of_fields (Obj.data_mapFields hd _)),(Obj.cls_mapFields ..).trans hc,by rw[Obj.data_mapFields hd];simp[rawInt]⟩
 refine wpAny_bind (wpAny_holding (wpAny_bind (wpAny_isOneOf_keyiter (s:={s with heap:=s.heap.update it (Obj.mapFields (·.setIfInBounds 1 (rawInt ((i:Int)+1))))}) Ar.typeIs ?_)))
 show wpAny _ _ (pure e.key) _ _ _
 exact wpAny_pure (wpAny_pure ⟨_,rfl,wpAny_pure (hQ _ Ar (Heap.SameBut.update ..))⟩)
theorem nO{it d:Addr}{od:Obj}{es:Array DictEntry}{ep i:Nat}{Q:Option Value→Shared→Prop}(hh:A.handled=none)(hit:s.heap.IsKeyIter it d i es.size ep)(hi:es.size≤i)(v_:s.heap.get? d=some od)(kL:od.data= .dict es ep)
 (hQ:∀h',Heap.ExtBut it s.heap h'→Q none {s with heap:=h'}):wpAny (model prog w) A (pyNext (.ref it)) Q E s:=by
 obtain⟨o,ho,hc,hd⟩:=id hit
 have C2:Builtin.Dict_items.ownsTuple "dict_keyiterator"=false:=by decide
 unfold pyNext
 refine wpAny_bind (wpAny_attempt (wpAny_callSpecial?_slot (name:=Str.ofString "__next__") hit.typeIs F.slot_dict_keyiterator_next
  (wpAny_call_entry F.slot_dict_keyiterator_next hit.typeIs F.entry_dict_keyiterator_next ?_ (F.args_dict_keyiterator_next_1 _))))
 refine wpAny_bind (wpAny_pure (wpAny_bind (wpAny_bind ?_)))
 first | refine wpAny_bind (wpAny_typeNameOfWhole_keyiter hit.typeIs (wpAny_pure ?_)) | refine wpAny_bind (wpAny_typeNameOf_keyiter hit.typeIs (wpAny_pure ?_))
 refine wpAny_bind (wpAny_fieldsOf ho hd ?_)
 simp only[C2,Bool.false_eq_true,if_false]
 show wpAny _ _ (if (Value.ref d==Value.none)=true then _ else _) _ _ s
 rw[if_neg (show¬((Value.ref d==Value.none)=true) from Bool.false_ne_true)]
 refine wpAny_bind (wpAny_pure (wpAny_bind (wpAny_dictEntries v_ kL ?_)))
 rw[if_neg (by simp)]
 refine wpAny_bind (wpAny_pure (wpAny_bind (wpAny_dictEpoch v_ kL ?_)))
 rw[if_neg (by simp)]
 refine wpAny_pure ?_
 simp only[show¬((i:Int)<0) from by omega,if_false,Int.toNat_natCast,Array.getElem?_eq_none hi]
 refine wpAny_bind ?_
 first | refine wpAny_bind (wpAny_typeNameOfWhole_keyiter hit.typeIs (wpAny_pure ?_)) | refine wpAny_bind (wpAny_typeNameOf_keyiter hit.typeIs (wpAny_pure ?_))
 show wpAny _ _ (setField (.ref it) 0 .none>>=_) _ _ s
 refine wpAny_bind (wpAny_setField ho hd (by simp) ?_)
 show wpAny _ _ (newExc (.type "StopIteration") []>>=_) _ _ _
 refine wpAny_bind ?_
 simp only[newExc,newTuple]
 refine wpAny_bind (wpAny_newObj_type ?_ (by size_fits))
 refine wpAny_bind (m:=firstArgMember _ _) (wpAny_of_eq (a:=Value.none) (by first | rfl | (simp only[firstArgMember];rfl)) ?_)
 refine wpAny_newObj_type ?_ (by size_fits)
 simp only[raiseNew]
 refine wpAny_bind (wpAny_handled ?_)
 rw[show A.in1.handled=none from hh]
 refine wpAny_bind (wpAny_pure (wpAny_throw ?_))
 refine wpAny_bind (wpAny_isInstance (T:="StopIteration") (b:=true) ⟨_,Heap.get?_push_size _ rfl,rfl⟩ isSubtype_stop ?_)
 exact wpAny_pure (hQ _ (((Heap.SameBut.update ..).extBut.push _).push _))
theorem xT{it d:Addr}{od:Obj}{es:Array DictEntry}{ep:Nat}{Q:Option Value→Shared→Prop}(hh:A.handled=none)(hit:s.heap.IsKeyIter it d es.size es.size ep)(v_:s.heap.get? d=some od)(kL:od.data= .dict es ep)
 (hQ:∀h',Heap.ExtBut it s.heap h'→Q none {s with heap:=h'}):wpAny (model prog w) A (pyNext (.ref it)) Q E s:=nO hh hit (Nat.le_refl _) v_ kL hQ
def BN(es:Array DictEntry):Nat→Value→Prop:=fun i v=>∃e,es[i]? =some e∧v=e.key
theorem uB(hh:A.handled=none)(I d:Addr)(dB:d≠I){od:Obj}{es:Array DictEntry}{ep:Nat}(kL:od.data= .dict es ep):
 Walks prog w A I [I,d] [I] es.size (BN es) (fun i h=>h.IsKeyIter I d i es.size ep∧h.get? d=some od) where
 sub:=fun b hb=>by simp at hb;simp[hb]
 frame:=fun _ _ _ st hk=>⟨st.1.at fun o e=>hk I (by simp) o e,hk d (by simp) _ st.2⟩
 item:=fun i s Q E hi st hQ=>by
  have hx:es[i]? =some es[i]:=Array.getElem?_eq_getElem hi
  exact rD st.1 st.2 kL hx fun h' Ar Aw=>hQ _ h' s.toks ⟨_,hx,rfl⟩ ⟨Ar,(Aw.2 d dB).trans st.2⟩ fun b o hb e=>Aw.extBut b o (fun h=>hb (by simp[h])) e
 done:=fun s Q E st hQ=>xT hh st.1 st.2 kL fun h' KN=>hQ h' s.toks fun b o hb e=>KN b o (fun h=>hb (by simp[h])) e
 self:=fun _ _ _ _ st hQ=>wpAny_pyIter_keyiter st.1 hQ
theorem zO{d:Addr}{od:Obj}{es:Array DictEntry}{ep:Nat}(lo:(d==sysModules)=false)(hx:od.ExactDict)(kL:od.data= .dict es ep):KdlSrc prog w "dict" d d es.size (BN es) (fun h=>h.get? d=some od) where
 type:=fun _ hm=>⟨od,hm,hx.1⟩
 there:=fun _ hm=>⟨Heap.lt_size hm,Heap.lt_size hm⟩
 keep:=fun _ _ hm hk=>hk d (.inl rfl) od hm
 notList:=by decide
 notTuple:=by decide
 hint:=fun _ _ s _ hm hq=>kdl_hint_dict ⟨od,hm,hx.1⟩ hq
 iter:=fun _ _ hh hm=>⟨_,_,(fun _ _ hq=>n6 lo hm hx kL hq),uB hh _ d (Nat.ne_of_lt (Heap.lt_size hm)) kL,⟨⟨_,Heap.get?_push_size _ rfl,rfl,rfl⟩,Heap.get?_push_of_some _ hm⟩⟩
end
end L3
namespace L3
open PySem
def insI(k:List Int):List (List Int)→List (List Int)
 |[]=>[k]
 |x::r=>if dh k x then k::x::r else x::insI k r
def sortI:List (List Int)→List (List Int)
 |[]=>[]
 |k::r=>insI k (sortI r)
def sT(l:List (List Int)):Prop:=l.Pairwise fun a b=>dh a b=true
theorem lD{k x:List Int}:∀{l:List (List Int)},x∈insI k l↔x=k∨x∈l
 |[]=>by simp[insI]
 |y::r=>by
  unfold insI
  split
  ·simp
  ·rw[List.mem_cons,lD,List.mem_cons]
   constructor
   ·rintro(h | h | h)<;>simp[h]
   ·rintro(h | h | h)<;>simp[h]
theorem nX{k:List Int}:∀{l:List (List Int)},sT l→k∉l→sT (insI k l)
 |[],_,_=>List.pairwise_singleton _ _
 |x::r,h,hk=>by
  have h:=List.pairwise_cons.mp h
  unfold insI
  split
  ·rename_i q
   refine List.pairwise_cons.mpr ⟨fun y hy=>?_,List.pairwise_cons.mpr h⟩
   rcases List.mem_cons.mp hy with rfl | hy
   ·exact q
   ·exact pN _ _ _ q (h.1 y hy)
  ·rename_i q
   have hx:dh x k=true:=by
    rcases lO k x (fun z=>hk (by rw[z];exact List.mem_cons_self ..)) with z | z
    ·exact absurd z q
    ·exact z
   refine List.pairwise_cons.mpr ⟨fun y hy=>?_,nX h.2 fun z=>hk (List.mem_cons_of_mem _ z)⟩
   rcases lD.mp hy with rfl | hy
   ·exact hx
   ·exact h.1 y hy
theorem d7{x:List Int}:∀{l:List (List Int)},x∈sortI l↔x∈l
 |[]=>Iff.rfl
 |k::r=>by unfold sortI;rw[lD,d7,List.mem_cons]
theorem iH:∀{l:List (List Int)},l.Nodup→sT (sortI l)
 |[],_=>List.Pairwise.nil
 |k::r,h=>by
  have h:=List.nodup_cons.mp h
  exact nX (iH h.2) fun z=>h.1 (d7.mp z)
theorem mI:∀{a b:List (List Int)},sT a→sT b→(∀x,x∈a↔x∈b)→a=b
 |[],[],_,_,_=>rfl
 |[],y::b,_,_,h=>by have:=(h y).mpr (List.mem_cons_self ..);cases this
 |x::a,[],_,_,h=>by have:=(h x).mp (List.mem_cons_self ..);cases this
 |x::a,y::b,ha,hb,h=>by
  have ha:=List.pairwise_cons.mp ha
  have hb:=List.pairwise_cons.mp hb
  have e:x=y:=by
   rcases List.mem_cons.mp ((h x).mp (List.mem_cons_self ..)) with q | q
   ·exact q
   ·rcases List.mem_cons.mp ((h y).mpr (List.mem_cons_self ..)) with p | p
    ·exact p.symm
    ·have z1:=hb.1 x q
     have z2:=ha.1 y p
     rw[iU _ _ z1] at z2
     cases z2
  subst e
  have J0:∀k,dh k k≠true:=fun k z=>by have:=iU _ _ z;rw[z] at this;cases this
  rw[mI ha.2 hb.2 fun z=>?_]
  constructor
  ·intro hz
   rcases List.mem_cons.mp ((h z).mp (List.mem_cons_of_mem _ hz)) with q | q
   ·subst q;exact absurd (ha.1 z hz) (J0 z)
   ·exact q
  ·intro hz
   rcases List.mem_cons.mp ((h z).mpr (List.mem_cons_of_mem _ hz)) with q | q
   ·subst q;exact absurd (hb.1 z hz) (J0 z)
   ·exact q
theorem uh:∀(n:Nat) (l:List Nat),l.Nodup→(∀x∈l,x<n)→l.length=n→∀k,k<n→k∈l
 |0,_,_,_,_,k,hk=>by omega
 |n+1,l,hd,hl,hn,k,hk=>by
  by_cases h:n∈l
  ·by_cases e:k=n
   ·subst e;exact h
   ·refine List.mem_of_mem_erase (uh n (l.erase n) (hd.erase n) (fun x hx=>?_) (by rw[List.length_erase_of_mem h,hn];rfl) k (by omega))
    have hx:=hd.mem_erase_iff.mp hx
    have:=hl x hx.2
    have:=hx.1
    omega
  ·cases l with
   |nil=>simp at hn
   |cons x r=>
    have hd:=List.nodup_cons.mp hd
    have lt:∀y∈x::r,y<n:=fun y hy=>by
     have:=hl y hy
     have:y≠n:=fun z=>h (by rw[←z];exact hy)
     omega
    exact absurd (uh n r hd.2 (fun y hy=>lt y (List.mem_cons_of_mem _ hy)) (by simpa using hn) x (lt x (List.mem_cons_self ..))) hd.1
theorem oY{ks:List (List Int)}{p:Array Nat}(hd:ks.Nodup)(P:PN ks.length p)(R:Ri (fun i j=>dh (ks.getD i []) (ks.getD j [])) p ks.length):(p.toList.map fun i=>ks.getD i [])=sortI ks:=by
 have hsz:p.toList.length=ks.length:=by rw[Array.length_toList];exact P.sz
 have Ez:∀i (h:i<p.toList.length),p.toList[i]=at' p i:=fun i h=>by
  have h':i<p.size:=by rw[Array.length_toList] at h;exact h
  rw[dn,Array.getElem?_eq_getElem h']
  simp
 refine mI ?_ (iH hd) fun x=>?_
 ·refine List.pairwise_iff_getElem.mpr fun i j hi hj uW=>?_
  rw[List.length_map] at hi hj
  rw[List.getElem_map,List.getElem_map,Ez i hi,Ez j hj]
  exact R i j uW (by omega)
 ·rw[d7]
  constructor
  ·intro hx
   obtain⟨i,hi,rfl⟩:=List.mem_map.mp hx
   obtain⟨j,hj,rfl⟩:=List.mem_iff_getElem.mp hi
   have:=P.lt j (by omega)
   rw[Ez j hj,List.getD_eq_getElem?_getD,List.getElem?_eq_getElem this]
   exact List.getElem_mem this
  ·intro hx
   obtain⟨k,hk,rfl⟩:=List.mem_iff_getElem.mp hx
   have Ft:k∈p.toList:=by
    have hn:p.toList.Nodup:=List.pairwise_iff_getElem.mpr fun i j hi hj uW z=>by
     rw[Ez i hi,Ez j hj] at z
     have:=P.inj i j (by omega) (by omega) z
     omega
    exact uh ks.length p.toList hn (fun x hx=>by
     obtain⟨j,hj,rfl⟩:=List.mem_iff_getElem.mp hx
     rw[Ez j hj]
     exact P.lt j (by omega)) hsz k hk
   refine List.mem_map.mpr ⟨k,Ft,?_⟩
   rw[List.getD_eq_getElem?_getD,List.getElem?_eq_getElem hk]
   rfl
end L3
namespace L3
open PySem PySem.Spec L2 SeqAt HT
open PyProof.Rows hiding St
def tupI(k:List Int):D:= .tup (k.map D.int)
def B9:D→Option (List Int)
 | .tup ds=>nums ds
 |_=>none
def fH:List D→Option (List (List Int))
 |[]=>some []
 |d::ds=>match B9 d,fH ds with
  |some k,some ks=>some (k::ks)
  |_,_=>none
def dU(ks:List (List Int)):Bool:=decide ks.Nodup&&decide (ks.length<64)&&ks.all fun k=>!k.isEmpty
def uv:List D→M D
 |[.lst ds]=>match fH ds with
  |some ks=>if dU ks then M.ret (.lst ((sortI ks).map tupI)) else M.stuck
  |none=>M.stuck
 |_=>M.stuck
def cU(H:Hp):List V→List (List Int)→Prop:=Paired fun v k=>∃a,v= .ref a∧H a=some (.tup (k.map V.int))
theorem nZ{K:W.Frag}{F H:Hp}(hs:Same F H):∀{ds:List D}{vs:List V}{ks:List (List Int)},fH ds=some ks→DenL K F ds vs→cU H vs ks∧cU F vs ks
 |[],_,_,e,h=>by cases e;cases (show _=_ from h);exact⟨.nil, .nil⟩
 |d::ds,_,_,e,⟨v,r,h1,h2,h3⟩=>by
  subst h1
  unfold fH at e
  split at e
  ·rename_i k ks e1 e2
   cases e
   obtain⟨Io,Ip⟩:=nZ hs e2 h3
   cases d with
   |tup es=>
    obtain⟨a,ws,rfl,k2,k3,_⟩:=h2
    have:=gg e1 k3
    subst this
    exact⟨.cons ⟨a,rfl,hs _ _ k2⟩ Io, .cons ⟨a,rfl,k2⟩ Ip⟩
   |_=>cases e1
  ·cases e
theorem mG{K:W.Frag}{F:Hp}:∀{ws:List V}{ks:List (List Int)},cU F ws ks→(∀k∈ks,k.length≤lim)→DenL K F (ks.map tupI) ws
 |_,_, .nil,_=>rfl
 |_,_, .cons (b:=k) h t,hl=>by
  obtain⟨a,rfl,h⟩:=h
  exact .cons ⟨a,_,rfl,h,DenL.ints k,by rw[List.length_map];exact hl k (List.mem_cons_self ..)⟩ (mG t fun k hk=>hl k (List.mem_cons_of_mem _ hk))
theorem jN{X:Cx}{pins:List (Addr×Obj)}{σ:St}{H:Hp}{s:Shared}(I:Inv X pins σ H s):∀{vs:List V}{aA:List Value}{ks:List (List Int)},cU H vs ks→Vals vs aA→(∀k∈ks,k≠[])→TupsAt s.heap aA ks
 |_,_,_, .nil,r,_=>by cases r;exact trivial
 |_,_,_, .cons (b:=k) h t,r,hn=>by
  obtain⟨a,rfl,h⟩:=h
  cases r with
  |cons r1 r2=>
   cases (show _=_ from r1)
   obtain⟨us,ru,pt,_⟩:=I.tuple (SqT.of (K:=X.K) h)
   obtain⟨o,q1,q2,m,q3⟩:=pt
   exact⟨⟨a,o,us,m,rfl,q1,q2,q3,intsAre_of ru,hn k (List.mem_cons_self ..)⟩,jN I t r2 fun k hk=>hn k (List.mem_cons_of_mem _ hk)⟩
theorem r_{H:Hp}:∀{vs:List V}{ks:List (List Int)}{i:Nat},cU H vs ks→i<vs.length→∃a,vs.getD i .non= .ref a∧H a=some (.tup ((ks.getD i []).map V.int))
 |_,_,i, .nil,hi=>by simp at hi
 |_,_,0, .cons h t,_=>h
 |_,_,i+1, .cons h t,hi=>r_ (i:=i) t (by simpa using hi)
theorem jd{H:Hp}:∀{vs:List V}{ks:List (List Int)},cU H vs ks→vs.length=ks.length
 |_,_, .nil=>rfl
 |_,_, .cons h t=>by rw[List.length_cons,List.length_cons,jd t]
theorem jM{H:Hp}{vs:List V}{ks:List (List Int)}(h:cU H vs ks):∀{is:List Nat},(∀i∈is,i<vs.length)→cU H (is.map fun i=>vs.getD i .non) (is.map fun i=>ks.getD i [])
 |[],_=> .nil
 |i::is,hi=> .cons (r_ h (hi i (List.mem_cons_self ..))) (jM h fun j hj=>hi j (List.mem_cons_of_mem _ hj))
theorem jY:∀{vs:List V}{us:List Value}(i:Nat),Vals vs us→i<vs.length→RelV (vs.getD i .non) (us.getD i Value.none)
 |_,_,i, .nil,hi=>by simp at hi
 |_,_,0, .cons h t,_=>h
 |_,_,i+1, .cons h t,hi=>jY i t (by simpa using hi)
theorem jZ{vs:List V}{us:List Value}(h:Vals vs us):∀{is:List Nat},(∀i∈is,i<vs.length)→Vals (is.map fun i=>vs.getD i .non) (is.map fun i=>us.getD i Value.none)
 |[],_=> .nil
 |i::is,hi=> .cons (jY i h (hi i (List.mem_cons_self ..))) (jZ h fun j hj=>hi j (List.mem_cons_of_mem _ hj))
def IM(K:W.Frag):List V→Hp→VK→Prop:=fun xs H Q=>∃p vs ks,xs=[.ref p]∧SqL K H p vs∧cU H vs ks∧dU ks=true∧∀(q:Addr) (is:List Nat),H q=none→(∀i∈is,i<vs.length)→is.length=vs.length→(is.map fun i=>ks.getD i [])=sortI ks→Q (.ref q) (upd H q (.lst (is.map fun i=>vs.getD i .non)))
section
variable{X:Cx}{Xw:Nat→Hp→Prop}{e:Expr}{δs:DA}{pos p:Pos}
theorem xF:CallR X (.builtin "sorted") (IM X.K):=by
 intro pins s σ H xs us Q I r h
 obtain⟨a,vs,ks,rfl,hq,hr,hk,q⟩:=h
 obtain⟨u,rfl,r1⟩:=r.one
 cases (show u=_ from r1)
 obtain⟨aA,rv,pl,hz⟩:=I.list hq
 unfold dU at hk
 rw[Bool.and_eq_true,Bool.and_eq_true] at hk
 have hd:ks.Nodup:=of_decide_eq_true hk.1.1
 have GK:ks.length<64:=of_decide_eq_true hk.1.2
 have dB:∀k∈ks,k≠[]:=fun k xo z=>by have:=List.all_eq_true.mp hk.2 k xo;rw[z] at this;cases this
 have yj:=jd hr
 have z9:=rv.length
 have xp:sizeLine=16777216:=sizeLine_eq
 have ht:=jN I hr rv dB
 refine Calls.call_function_entry kind_sorted plain_sorted entry_sorted (args_sorted1 _) ?_
 unfold Builtin.«sorted»
 refine wpAny_bind (m:=checkCount "sorted" 1 1 _) (wpAny_pure (wpAny_bind (collect_list pl.isList (wpAny_bind (wpAny_newList ?_ (by rw[xp];omega))) (by rw[xp];omega))))
 have hsz:((s.heap.push (seqObj "list" #[] 0)).update s.heap.objs.size (Obj.mapSeq (· ++aA.toArray))).objs.size=s.heap.objs.size+1:=by rw[Heap.size_update,size_push']
 have keep:∀b o,s.heap.get? b=some o→(((s.heap.push (seqObj "list" #[] 0)).update s.heap.objs.size (Obj.mapSeq (· ++aA.toArray))).push (seqObj "list" aA.toArray 0)).get? b=some o:=fun b o e=>by
  have fX:=Heap.lt_size e
  exact Heap.get?_push_of_some _ ((Heap.get?_update_ne _ _ _ _ (Nat.ne_of_lt fX)).trans (Heap.get?_push_of_some _ e))
 have C0:(((s.heap.push (seqObj "list" #[] 0)).update s.heap.objs.size (Obj.mapSeq (· ++aA.toArray))).push (seqObj "list" aA.toArray 0)).get? (s.heap.objs.size+1)=some (seqObj "list" aA.toArray 0):=by
  rw[←hsz];exact Heap.get?_push_size _ rfl
 show wpAny _ _ _ _ _ {s with heap:=((s.heap.push (seqObj "list" #[] 0)).update s.heap.objs.size (Obj.mapSeq (· ++aA.toArray))).push (seqObj "list" aA.toArray 0)}
 rw[hsz]
 refine wpAny_bind (wpAny_holding (wpAny_call_entry slot_list_sort ⟨_,C0,rfl⟩ entry_list_sort (oX (s:={s with heap:=((s.heap.push (seqObj "list" #[] 0)).update s.heap.objs.size (Obj.mapSeq (· ++aA.toArray))).push (seqObj "list" aA.toArray 0)}) C0
  (ht.keep (a:=s.heap.objs.size) (fun b o _ e=>keep b o e) (fun o e=>absurd (Heap.lt_size e) (Nat.lt_irrefl _))) hd (by omega) fun P h' c' hP hR CQ yi=>?_) (args_list_sort _)))
 have Ey:∀i∈P.toList,i<vs.length:=fun i hi=>by
  obtain⟨j,hj,rfl⟩:=List.mem_iff_getElem.mp hi
  have h':j<P.size:=by rw[Array.length_toList] at hj;exact hj
  have:=hP.lt j (by rw[hP.sz] at h';exact h')
  rw[dn,Array.getElem?_eq_getElem h'] at this
  have e:P.toList[j]=P[j]:=by simp
  rw[e]
  have:P[j]<aA.length:=this
  omega
 have GL:PN ks.length P:=by rw[←yj,z9];exact hP
 have Hq:Ri (fun i j=>dh (ks.getD i []) (ks.getD j [])) P ks.length:=by rw[←yj,z9];exact hR
 have EA:=oY hd GL Hq
 have CP:H (s.heap.objs.size+1)=none:=I.hok.fresh (Nat.le_succ _)
 refine⟨_,rfl,wpAny_pure ⟨_,rfl,⟨.ref (s.heap.objs.size+1),_,I.laid (a:=s.heap.objs.size+1) (t':=s.toks) (o:= .lst (P.toList.map fun i=>vs.getD i .non)) (fun b ob e=>yi b ob (Nat.ne_of_lt (Nat.lt_succ_of_lt (Heap.lt_size e))) (keep b ob e)) (Nat.le_succ _) ?_,rfl,q _ P.toList CP Ey (by rw[Array.length_toList,hP.sz];omega) EA⟩⟩⟩
 exact⟨by rw[List.length_map,Array.length_toList,hP.sz,xp];omega,_,c',jZ rv Ey,CQ⟩
theorem n0{K:W.Frag}{F:Hp}:∀{ds:List D}{vs:List V}{ks:List (List Int)},fH ds=some ks→DenL K F ds vs→∀k∈ks,k.length≤lim
 |[],_,_,e,_=>by cases e;exact fun k hk=>by cases hk
 |d::ds,_,_,e,⟨v,r,h1,h2,h3⟩=>by
  unfold fH at e
  split at e
  ·rename_i k ks e1 e2
   cases e
   intro k' xo
   rcases List.mem_cons.mp xo with rfl | xo
   ·cases d with
    |tup es=>
     obtain⟨a,ws,rfl,k2,k3,k4⟩:=h2
     have:=gg e1 k3
     have hl:=k3.len
     rw[this,List.length_map] at hl
     omega
    |_=>cases e1
   ·exact n0 e2 h3 k' xo
  ·cases e
theorem jV:∀l:List (List Int),(sortI l).length=l.length
 |[]=>rfl
 |k::r=>by
  have ins:∀(k:List Int) (l:List (List Int)),(insI k l).length=l.length+1:=by
   intro k l
   induction l with
   |nil=>rfl
   |cons x l ih=>
    unfold insI
    split
    ·rfl
    ·rw[List.length_cons,ih,List.length_cons]
  unfold sortI
  rw[ins,jV r,List.length_cons]
theorem yZ(hg:Gl X "sorted")(hm:X.mg "sorted"=none)(hb:bootBuiltins "sorted"=some (.builtin "sorted"))(ha:k7 X Xw [e] δs)(he:starEach [e] X.env=[(false,eval e X.env)]:=by rfl):PD X Xw (.Call (.Name "sorted" p) [e] [] pos) (dA uv δs):=
 dO xF (fun Xw F H vs ds Q s h w=>by
  unfold uv at w
  split at w
  ·rename_i ds
   obtain⟨v,rfl,h1⟩:=h.one
   obtain⟨a,ws,rfl,h2,h3,h4⟩:=h1
   split at w
   ·rename_i ks CS
    split at w
    ·rename_i hok
     obtain⟨r1,r2⟩:=nZ s CS h3
     have Lb:=n0 CS h3
     refine⟨a,ws,ks,rfl,SqL.of (s _ _ h2),r1,hok,fun q is hq hi hl hs=>WP.fin w (Ext.lay s hq) ⟨q,_,rfl,aF,DenL.mono (Ext.lay s hq).ff ?_,?_⟩⟩
     ·have:=jM r2 hi
      rw[hs] at this
      exact mG this fun k hk=>Lb k (d7.mp hk)
     ·rw[List.length_map,jV,←jd r1,←h3.len]
      exact h4
    ·exact w.elim
   ·exact w.elim
  ·exact w.elim) hg hm hb ha (by decide) (by decide) he rfl
end
def lJ(k:List Int):List Key:=k.map Sum.inl
def Gj:List V→Hp→VK→Prop:=fun xs H Q=>∃p aw ks,xs=[.ref p]∧Rd H p (.dT aw)∧aw.map (·.1)=ks.map lJ∧dU ks=true∧∀(q:Addr) (ws:List V),H q=none→cU H ws (sortI ks)→Q (.ref q) (upd H q (.lst ws))
theorem oa{H:Hp}:∀{aw:List (List Key×V)}{xs:List (List Key×Addr×Value)}{ks:List (List Int)},Paired (fun (p:List Key×V) (q:List Key×Addr×Value)=>p.1=q.1∧H q.2.1=some (.tup (p.1.map kV))∧RelV p.2 q.2.2) aw xs→
 aw.map (·.1)=ks.map lJ→cU H (xs.map fun x=>V.ref x.2.1) ks
 |_,_,[], .nil,_=> .nil
 |_,_,_::_, .nil,e=>by simp at e
 |_,_,[], .cons h t,e=>by simp at e
 |_,_,k::ks, .cons h t,e=>by
  rw[List.map_cons,List.map_cons] at e
  injection e with e1 e2
  refine .cons ⟨_,rfl,?_⟩ (oa t e2)
  have hk:(lJ k).map kV=k.map V.int:=by unfold lJ;rw[List.map_map];rfl
  rw[h.2.1,e1,hk]
section
variable{X:Cx}{Xw:Nat→Hp→Prop}{e:Expr}{δs:DA}{pos p:Pos}
theorem vU(hc:X.calm=true):CallR X (.builtin "sorted") Gj:=by
 intro pins s σ H xs us Q I r h
 obtain⟨a,aw,ks,rfl,hH,B5,hk,q⟩:=h
 obtain⟨u,rfl,r1⟩:=r.one
 cases (show u=_ from r1)
 obtain⟨z,lo,xs,rel,o,es,ep,g1,g2,g3,g4,g5⟩:=(show ObjOk X.prog X.w H s.heap a (.dT aw) from hH.ok I.hok)
 unfold dU at hk
 rw[Bool.and_eq_true,Bool.and_eq_true] at hk
 have hd:ks.Nodup:=of_decide_eq_true hk.1.1
 have GK:ks.length<64:=of_decide_eq_true hk.1.2
 have dB:∀k∈ks,k≠[]:=fun k xo z=>by have:=List.all_eq_true.mp hk.2 k xo;rw[z] at this;cases this
 have hr:=oa rel B5
 have yj:=jd hr
 rw[List.length_map] at yj
 have JI:es.size=xs.length:=by rw[←Array.length_toList,g4,List.length_map]
 have xp:sizeLine=16777216:=sizeLine_eq
 refine Calls.call_function_entry kind_sorted plain_sorted entry_sorted (args_sorted1 _) ?_
 unfold Builtin.«sorted»
 refine wpAny_bind (m:=checkCount "sorted" 1 1 _) (wpAny_pure (wpAny_bind (PySem.W.kdu_collect (A:=X.A.in1) (zO lo g2 g3) (I.ok.hd hc) g1 (by rw[JI,xp];omega) fun h1 tk acc FI ye=>?_)))
 have E9:acc.toList.length=xs.length:=by rw[Array.length_toList,←JI];exact ye.1
 have I1:Inv X pins σ H {s with heap:=h1,toks:=tk}:=I.kept (t':=tk) fun b ob e=>FI b ob e
 have rv:Vals (xs.map fun x=>V.ref x.2.1) acc.toList:=by
  have ext:∀{vs:List V}{us:List Value},vs.length=us.length→(∀(i:Nat) (v:V) (u:Value),vs[i]? =some v→us[i]? =some u→RelV v u)→Vals vs us:=by
   intro vs
   induction vs with
   |nil=>intro us h _;cases us with | nil=>exact .nil | cons _ _=>simp at h
   |cons v vs ih=>
    intro us h hh
    cases us with
    |nil=>simp at h
    |cons u us=>exact .cons (hh 0 v u rfl rfl) (ih (by simpa using h) fun i v u h1 h2=>hh (i+1) v u h1 h2)
  refine ext (by rw[List.length_map,E9]) fun i v u e1 e2=>?_
  rw[Array.getElem?_toList] at e2
  obtain⟨en,q1,q2⟩:=ye.2 i u e2
  rw[←Array.getElem?_toList,g4,List.getElem?_map] at q1
  rw[List.getElem?_map] at e1
  cases w:xs[i]? with
  |none=>rw[w] at e1;cases e1
  |some x=>
   rw[w] at e1 q1
   cases e1
   cases q1
   exact q2
 have ht:=jN I1 hr rv dB
 refine wpAny_bind (wpAny_newList ?_ (by rw[xp];omega))
 have C0:(h1.push (seqObj "list" acc.toList.toArray 0)).get? h1.objs.size=some (seqObj "list" acc.toList.toArray 0):=Heap.get?_push_size _ rfl
 refine wpAny_bind (wpAny_holding (wpAny_call_entry slot_list_sort ⟨_,C0,rfl⟩ entry_list_sort (oX (s:={s with heap:=h1.push (seqObj "list" acc.toList.toArray 0),toks:=tk}) C0
  (ht.keep (a:=h1.objs.size) (fun b o _ e=>Heap.get?_push_of_some _ e) (fun o e=>absurd (Heap.lt_size e) (Nat.lt_irrefl _))) hd (by omega) fun P h' c' hP hR CQ yi=>?_) (args_list_sort _)))
 have Ey:∀i∈P.toList,i<(xs.map fun x=>V.ref x.2.1).length:=fun i hi=>by
  obtain⟨j,hj,rfl⟩:=List.mem_iff_getElem.mp hi
  have h':j<P.size:=by rw[Array.length_toList] at hj;exact hj
  have:=hP.lt j (by rw[hP.sz] at h';exact h')
  rw[dn,Array.getElem?_eq_getElem h'] at this
  have e:P.toList[j]=P[j]:=by simp
  rw[e,List.length_map]
  have:P[j]<acc.toList.length:=this
  omega
 have GL:PN ks.length P:=by rw[←yj,←E9];exact hP
 have Hq:Ri (fun i j=>dh (ks.getD i []) (ks.getD j [])) P ks.length:=by rw[←yj,←E9];exact hR
 have EA:=oY hd GL Hq
 have JW:=jM hr Ey
 rw[EA] at JW
 refine⟨_,rfl,wpAny_pure ⟨_,rfl,⟨.ref h1.objs.size,_,I1.laid (a:=h1.objs.size) (t':=tk) (o:= .lst (P.toList.map fun i=>(xs.map fun x=>V.ref x.2.1).getD i .non)) (fun b ob e=>yi b ob (Nat.ne_of_lt (Heap.lt_size e)) (Heap.get?_push_of_some _ e)) (Nat.le_refl _) ?_,rfl,q _ _ (I1.hok.fresh (Nat.le_refl _)) JW⟩⟩⟩
 exact⟨by rw[List.length_map,Array.length_toList,hP.sz,xp];omega,_,c',jZ rv Ey,CQ⟩
theorem oT{F F':Hp}(e:Same F F'):∀{ws:List V}{ks:List (List Int)},cU F ws ks→cU F' ws ks
 |_,_, .nil=> .nil
 |_,_, .cons ⟨b,q1,q2⟩ t=> .cons ⟨b,q1,e _ _ q2⟩ (oT e t)
theorem r9{F H:Hp}(hs:Same F H):∀{ws:List V}{ks:List (List Int)},cU H ws ks→∃F',Ext F H F' H∧cU F' ws ks
 |_,_, .nil=>⟨F,Ext.refl hs, .nil⟩
 |_,_, .cons h t=>by
  obtain⟨a,rfl,h⟩:=h
  obtain⟨F1,e1,r1⟩:=r9 hs t
  have e2:=Ext.tup (F:=F1) e1.fh h
  refine⟨_,e1.trans e2, .cons ⟨a,rfl,aF⟩ ?_⟩
  exact oT e2.ff r1
def nY:List Key→Option (List Int)
 |[]=>some []
 | .inl i::r=>(nY r).map (i:: ·)
 |_=>none
def eo:List (List Key)→Option (List (List Int))
 |[]=>some []
 |k::r=>match nY k,eo r with
  |some x,some xs=>some (x::xs)
  |_,_=>none
theorem rj:∀{k:List Key}{x:List Int},nY k=some x→k=lJ x
 |[],_,e=>by cases e;rfl
 | .inl i::r,_,e=>by
   unfold nY at e
   cases q:nY r with
   |none=>rw[q] at e;cases e
   |some y=>rw[q] at e;cases e;rw[rj q];rfl
 | .inr _::r,_,e=>by cases e
theorem jw:∀{kk:List (List Key)}{ks:List (List Int)},eo kk=some ks→kk=ks.map lJ
 |[],_,e=>by cases e;rfl
 |k::r,_,e=>by
  unfold eo at e
  split at e
  ·rename_i x xs e1 e2
   cases e
   rw[List.map_cons,←rj e1,←jw e2]
  ·cases e
def gH:List D→M D
 |[.dct kk ds]=>match eo kk with
  |some ks=>if dU ks&&ks.all (fun k=>decide (k.length≤lim)) then M.ret (.lst ((sortI ks).map tupI)) else M.stuck
  |none=>M.stuck
 |_=>M.stuck
theorem g6{α β:Type}:∀{a:List α}{b:List β},a.length=b.length→(a.zip b).map (·.1)=a
 |[],[],_=>rfl
 |x::a,y::b,h=>by rw[List.zip_cons_cons,List.map_cons,g6 (by simpa using h)]
 |[],_::_,h=>by simp at h
 |_::_,[],h=>by simp at h
theorem vq(hc:X.calm=true)(hg:Gl X "sorted")(hm:X.mg "sorted"=none)(hb:bootBuiltins "sorted"=some (.builtin "sorted"))(ha:k7 X Xw [e] δs)(he:starEach [e] X.env=[(false,eval e X.env)]:=by rfl):PD X Xw (.Call (.Name "sorted" p) [e] [] pos) (dA gH δs):=
 dO (vU hc) (fun Xw F H vs ds Q s h w=>by
  unfold gH at w
  split at w
  ·rename_i kk ds
   obtain⟨v,rfl,h1⟩:=h.one
   obtain⟨a,ob,ws,rfl,h2,h3,h4,h5⟩:=h1
   split at w
   ·rename_i ks CS
    split at w
    ·rename_i hok
     rw[Bool.and_eq_true] at hok
     have hl:∀k∈ks,k.length≤lim:=fun k hk=>of_decide_eq_true (List.all_eq_true.mp hok.2 k hk)
     have GK:ks.length<64:=by
      have:=hok.1
      unfold dU at this
      rw[Bool.and_eq_true,Bool.and_eq_true] at this
      exact of_decide_eq_true this.1.2
     refine⟨a,_,ks,rfl, .inr ⟨ob,s _ _ h2⟩,by rw[g6 (by rw[h4];exact h3.len),jw CS],hok.1,fun q us hq hr=>?_⟩
     obtain⟨F1,e1,r1⟩:=r9 s hr
     have e2:=Ext.lay (o:= .lst us) e1.fh hq
     exact WP.fin w (e1.trans e2) ⟨q,_,rfl,aF,DenL.mono e2.ff (mG r1 fun k hk=>hl k (d7.mp hk)),by rw[List.length_map,jV];unfold lim;omega⟩
    ·exact w.elim
   ·exact w.elim
  ·exact w.elim) hg hm hb ha (by decide) (by decide) he rfl
end
end L3
namespace L3
open PySem PySem.Spec L2
open PyProof.Rows hiding St
def orM{α:Type}(a b:M α):M α:=match a with
 |none=>b
 |some r=>some r
def C6(a b:DA):DA:=fun ρ=>orM (a ρ) (b ρ)
section
variable{X:Cx}{Xw:Nat→Hp→Prop}{e tg:Expr}{es:List Expr}{δ δ':DE}{δi δi' δs:DA}{τ:DT}
theorem A_(h:uH X Xw tg e δi)(h':uH X Xw tg e δi'):uH X Xw tg e (C6 δi δi'):=fun pins s σ H Q I ⟨F,ρ,S,w⟩=>by
 unfold C6 orM at w
 cases q:δi ρ with
 |none=>rw[q] at w;exact h' pins s σ H Q I ⟨F,ρ,S,w⟩
 |some r=>rw[q] at w;exact h pins s σ H Q I ⟨F,ρ,S,by rw[q];exact w⟩
theorem jJ{st:Stmt}:iI X Xw st (fun _=>M.stuck):=fun F₀ H₀ pins s σ H D I ⟨F,ρ,S,w⟩=>w.elim
end
def fgt:List Nat→a5→a5
 |[],ρ=>ρ
 |i::is,ρ=>fgt is (ρ.set i none)
def FW(f:a5→a5):Out→M Out
 | .nx ρ=>M.ret (.nx (f ρ))
 | .rt d=>M.ret (.rt d)
def cb(is:List Nat)(τ:DS):DS:=fun ρ=>τ ρ>>=FW (fgt is)
theorem StOk.fgt1{K:W.Frag}{F₀ H₀ F H:Hp}{σ:St}{ρ:a5}(s:StOk K F₀ H₀ F H σ ρ)(i:Nat):StOk K F₀ H₀ F H σ (ρ.set i none):=by
 have get:∀(j:Nat) (sl:Sl),(ρ.set i none)[j]? =some (some sl)→ρ[j]? =some (some sl):=fun j sl e=>by
  by_cases hj:j=i
  ·subst hj
   by_cases hl:j<ρ.length
   ·rw[List.getElem?_set_self hl] at e;cases e
   ·rw[List.getElem?_eq_none (by simpa using hl)] at e;cases e
  ·rw[List.getElem?_set_ne (Ne.symm hj)] at e;exact e
 exact⟨s.ext,⟨s.st.fh,fun j sl e=>s.st.den j sl (get j sl e)⟩,by simp[s.len],fun j c a e e'=>s.own j c a (get j _ e) e',fun j k c c' a e1 e2 e3 e4=>s.sep j k c c' a (get j _ e1) (get k _ e2) e3 e4⟩
theorem StOk.fgt{K:W.Frag}{F₀ H₀ F H:Hp}{σ:St}:∀(is:List Nat) {ρ:a5},StOk K F₀ H₀ F H σ ρ→StOk K F₀ H₀ F H σ (L3.fgt is ρ)
 |[],_,s=>s
 |i::is,_,s=>StOk.fgt is (s.fgt1 i)
theorem WPS.fgt{K:W.Frag}{Xw:Nat→Hp→Prop}{F₀ H₀:Hp}{is:List Nat}{m:M Out}{Dn:Ends}(w:WPS K Xw F₀ H₀ (m>>=FW (L3.fgt is)) Dn):WPS K Xw F₀ H₀ m Dn:=by
 match m,w with
 |none,w=>exact w
 |some (.ok (.nx ρ)),w=>exact fun σ F H s=>w σ F H (s.fgt is)
 |some (.ok (.rt d)),w=>exact w
 |some (.ex n),w=>exact w
section
variable{X:Cx}{Xw:Nat→Hp→Prop}{st:Stmt}{J_:List Stmt}{τ:DS}{is:List Nat}
theorem bp(h:PSDs X Xw J_ τ):PSDs X Xw J_ (cb is τ):=fun F₀ H₀=>PSs.weak (h F₀ H₀) fun D σ H ⟨F,ρ,s,w⟩=>⟨F,ρ,s,WPS.fgt w⟩
end
def Kt:Option Sl→Option Sl
 |some (.ow c)=>some (.fz c.d)
 |x=>x
def BX(ρ:a5):a5:=ρ.map Kt
def refA(h:Heap)(P:Addr→Prop)[DecidablePred P](H:Hp):Hp:=fun b=>if P b then(H b).map (kJ ((h.get? b).getD {cls:= .none,data:= .fields #[]})) else H b
theorem tw(ob:Obj)(o:HO):kJ ob o=o∨((∃k,o= .dT k)∨∃k,o= .dK k)∧kJ ob o= .frz ob o:=by
 cases o<;>first | exact .inl rfl | exact .inr ⟨.inl ⟨_,rfl⟩,rfl⟩ | exact .inr ⟨.inr ⟨_,rfl⟩,rfl⟩
section
variable{X:Cx}{pins:List (Addr×Obj)}{σ:St}{H:Hp}{s:Shared}{P:Addr→Prop}[DecidablePred P]
theorem ft{h:Heap}{b:Addr}(e:H b=none):refA h P H b=none:=by
 unfold refA;split
 ·rw[e];rfl
 ·exact e
theorem oR{h:Heap}{b:Addr}{o:HO}(e:H b=some o):refA h P H b=some o∨((∃k,o= .dT k)∨∃k,o= .dK k)∧P b∧refA h P H b=some (.frz ((h.get? b).getD {cls:= .none,data:= .fields #[]}) o):=by
 unfold refA;split
 ·rename_i hp
  rw[e]
  rcases tw ((h.get? b).getD {cls:= .none,data:= .fields #[]}) o with q | ⟨q1,q2⟩
  ·exact .inl (by show some _=_;rw[q])
  ·exact .inr ⟨q1,hp,by show some _=_;rw[q2]⟩
 ·exact .inl e
theorem fq{h:Heap}{b:Addr}{o:HO}(e:H b=some o)(n1:∀k,o≠ .dT k)(n2:∀k,o≠ .dK k):refA h P H b=some o:=by
 rcases oR (P:=P) (h:=h) e with q | ⟨⟨k,q⟩ | ⟨k,q⟩,_⟩
 ·exact q
 ·exact absurd q (n1 k)
 ·exact absurd q (n2 k)
theorem Inv.refA(I:Inv X pins σ H s):Inv X pins σ (L3.refA s.heap P H) s:=by
 have obj:∀b o,H b=some o→((∃k,o=HO.dT k)∨∃k,o= .dK k)→∃ob,s.heap.get? b=some ob:=fun b o e hu=>by
  have hk:=I.hok b o e
  rcases hu with⟨k,h1⟩ | ⟨k,h1⟩
  ·subst h1;obtain⟨_,_,_,_,ob,_,_,q,_⟩:=hk;exact⟨ob,q⟩
  ·subst h1;obtain⟨_,_,_,_,ob,_,_,q,_⟩:=hk;exact⟨ob,q⟩
 refine⟨I.ok,I.os,I.bare,⟨I.base.keep,I.base.slot,fun b q h1 h2 h3=>ft (I.base.free b q h1 h2 h3),I.base.there,fun b xs q=>fq (I.base.tups b xs q) (fun _ z=>nomatch z) (fun _ z=>nomatch z),
  fun b q1 v q=>fq (I.base.frzs b q1 v q) (fun _ z=>nomatch z) (fun _ z=>nomatch z),fun b ps q=>?_⟩,I.loc,I.cell,ft I.free,fun x c q=>ft (I.freeC x c q),fun p hp=>?_,fun b v q=>?_,I.len⟩
 ·obtain⟨m,this⟩:=I.base.tbls b ps q
  exact⟨m,fq this (fun _ z=>nomatch z) (fun _ z=>nomatch z)⟩
 ·obtain⟨h1,h2,h3⟩:=I.pin p hp
  exact⟨h1,ft h2,h3⟩
 ·have st:∀{c:Addr}{v:HO},ObjOk X.prog X.w H s.heap c v→ObjOk X.prog X.w (L3.refA s.heap P H) s.heap c v:=fun {c v} k=>k.stay (fun _ _ _ q=>q)
   (fun c' q=>fq q (fun _ z=>nomatch z) (fun _ z=>nomatch z)) fun c' xs q=>fq q (fun _ z=>nomatch z) (fun _ z=>nomatch z)
  cases e:H b with
  |none=>rw[ft e] at q;cases q
  |some o=>
   rcases oR (P:=P) (h:=s.heap) e with z | ⟨hu,hp,z⟩
   ·rw[z] at q;cases q;exact st (I.hok b _ e)
   ·rw[z] at q
    cases q
    obtain⟨ob,Fq⟩:=obj b o e hu
    rw[Fq]
    exact⟨Fq,st (I.hok b o e)⟩
def unA(P:Addr→Prop)[DecidablePred P](H:Hp):Hp:=fun b=>if P b then(match H b with | some (.frz _ u)=>some u | x=>x) else H b
theorem Inv.unA(I:Inv X pins σ H s)(hP:∀b,P b→∀o u,X.H₀ b≠some (.frz o u))(hQ:∀b,P b→∀o u,H b=some (.frz o u)→(∃k,u= .dT k)∨∃k,u= .dK k):Inv X pins σ (L3.unA P H) s:=by
 have non:∀b,H b=none→L3.unA P H b=none:=fun b e=>by unfold L3.unA;rw[e];split<;>rfl
 have keep:∀b o,H b=some o→(∀q u,o≠ .frz q u)→L3.unA P H b=some o:=fun b o e n=>by
  unfold L3.unA;split
  ·rw[e];cases o<;>first | rfl | exact absurd rfl (n _ _)
  ·exact e
 refine⟨I.ok,I.os,I.bare,⟨I.base.keep,I.base.slot,fun b q h1 h2 h3=>non b (I.base.free b q h1 h2 h3),I.base.there,fun b xs q=>keep b _ (I.base.tups b xs q) (fun _ _ z=>nomatch z),
  fun b q1 v q=>?_,fun b ps q=>?_⟩,I.loc,I.cell,non _ I.free,fun x c q=>non _ (I.freeC x c q),fun p hp=>?_,fun b v q=>?_,I.len⟩
 ·have:=I.base.frzs b q1 v q
  unfold L3.unA
  rw[if_neg (fun hp=>hP b hp q1 v q)]
  exact this
 ·obtain⟨m,this⟩:=I.base.tbls b ps q
  exact⟨m,keep b _ this (fun _ _ z=>nomatch z)⟩
 ·obtain⟨h1,h2,h3⟩:=I.pin p hp
  exact⟨h1,non _ h2,h3⟩
 ·have st:∀{c:Addr}{v:HO},ObjOk X.prog X.w H s.heap c v→ObjOk X.prog X.w (L3.unA P H) s.heap c v:=fun {c v} k=>k.stay (fun _ _ _ q=>q)
   (fun c' q=>keep c' _ q (fun _ _ z=>nomatch z)) fun c' xs q=>keep c' _ q (fun _ _ z=>nomatch z)
  cases e:H b with
  |none=>rw[non b e] at q;cases q
  |some o=>
   have ko:=I.hok b o e
   by_cases hf:∃ob u,o= .frz ob u
   ·obtain⟨ob,u,rfl⟩:=hf
    unfold L3.unA at q
    split at q
    ·rw[e] at q
     cases q
     obtain⟨_,k2⟩:=ko
     exact st k2
    ·rw[e] at q;cases q;exact st ko
   ·rw[keep b o e (fun q u z=>hf ⟨q,u,z⟩)] at q
    cases q
    exact st ko
end
mutual
def BW:D→Bool
 | .non=>true
 | .bl _=>true
 | .int _=>true
 | .str _=>true
 | .tup ds=>uT ds
 | .raw _=>false
 | .exc _=>false
 | .scr _=>false
 | .lst _=>false
 | .dct _ _=>false
 | .dci _ _=>false
def uT:List D→Bool
 |[]=>true
 |d::ds=>BW d&&uT ds
end
def OwnAt(σ:St)(ρ:a5)(b:Addr):Prop:=∃(i:Nat) (c:C),ρ[i]? =some (some (Sl.ow c))∧σ[i]? =some (some (V.ref b))
section
variable{K:W.Frag}{F H F' H':Hp}{σ:St}{ρ:a5}{h:Heap}{b:Addr}
theorem OwnAt.obj(S:StE K F H σ ρ)(p:OwnAt σ ρ b):F b=none∧∃o,H b=some o∧((∃x,o= .lst x)∨(∃x,o= .dT x)∨∃x,o= .dK x):=by
 obtain⟨i,c,h1,h2⟩:=p
 obtain⟨v,h3,a,o,rfl,h4,h5,h6⟩:=S.den i _ h1
 rw[h3] at h2
 cases h2
 refine⟨h5,o,h4,?_⟩
 cases c with
 |lst ds=>obtain⟨vs,rfl,_⟩:=h6;exact .inl ⟨_,rfl⟩
 |dct ks ds=>obtain⟨vs,rfl,_⟩:=h6;exact .inr (.inl ⟨_,rfl⟩)
 |dci ks ds=>obtain⟨vs,rfl,_⟩:=h6;exact .inr (.inr ⟨_,rfl⟩)
open Classical in
noncomputable def fA(σ:St)(ρ:a5)(H1 F:Hp):Hp:=fun b=>if OwnAt σ ρ b then H1 b else F b
open Classical in
theorem uS(S:StE K F H σ ρ){H1:Hp}:Same F (fA σ ρ H1 F):=fun b u e=>by
 unfold fA
 rw[if_neg (fun p=>by rw[(OwnAt.obj S p).1] at e;cases e)]
 exact e
open Classical in
theorem CJ(S:StE K F H σ ρ):StE K (fA σ ρ (refA h (OwnAt σ ρ) H) F) (refA h (OwnAt σ ρ) H) σ (BX ρ):=by
 refine⟨fun b u e=>?_,fun j sl e=>?_⟩
 ·unfold fA at e
  split at e
  ·exact e
  ·rename_i hp
   unfold refA
   rw[if_neg hp]
   exact S.fh b u e
 ·unfold BX at e
  rw[List.getElem?_map] at e
  cases q:ρ[j]? with
  |none=>rw[q] at e;cases e
  |some x=>
   rw[q] at e
   cases x with
   |none=>cases e
   |some y=>
    cases y with
    |fz d=>
     cases e
     obtain⟨v,h1,h2⟩:=S.den j _ q
     exact⟨v,h1,Den.mono (uS S) h2⟩
    |ow c=>
     cases e
     obtain⟨v,h1,a,o,rfl,h4,h5,h6⟩:=S.den j _ q
     refine⟨_,h1,DenC.den (ob:=(h.get? a).getD {cls:= .none,data:= .fields #[]}) h6 (uS S) ?_⟩
     have hp:OwnAt σ ρ a:=⟨j,c,q,h1⟩
     unfold fA refA
     rw[if_pos hp,if_pos hp,h4]
     rfl
open Classical in
theorem xY(S:StE K F H σ ρ)(E:Ext (fA σ ρ (refA h (OwnAt σ ρ) H) F) (refA h (OwnAt σ ρ) H) F' H'):
 Ext F H (fun b=>if OwnAt σ ρ b then none else F' b) (unA (OwnAt σ ρ) H')∧∀b,OwnAt σ ρ b→∀o u,H' b=some (.frz o u)→(∃k,u= .dT k)∨∃k,u= .dK k:=by
 have Jm:∀b,OwnAt σ ρ b→∃o,H b=some o∧H' b=some (kJ ((h.get? b).getD {cls:= .none,data:= .fields #[]}) o)∧((∃x,o= .lst x)∨(∃x,o= .dT x)∨∃x,o= .dK x):=fun b hp=>by
  obtain⟨_,o,h1,h2⟩:=OwnAt.obj S hp
  refine⟨o,h1,E.hh b _ ?_,h2⟩
  unfold refA
  rw[if_pos hp,h1]
  rfl
 refine⟨⟨fun b o e=>?_,fun b u e=>?_,fun b u e=>?_,fun b hb=>?_⟩,fun b hp o u e=>?_⟩
 ·unfold unA
  by_cases hp:OwnAt σ ρ b
  ·obtain⟨o',h1,h2,h3⟩:=Jm b hp
   rw[e] at h1
   cases h1
   rw[if_pos hp,h2]
   rcases h3 with⟨x,rfl⟩ | ⟨x,rfl⟩ | ⟨x,rfl⟩<;>rfl
  ·rw[if_neg hp]
   refine E.hh b o ?_
   unfold refA
   rw[if_neg hp]
   exact e
 ·have hp:¬OwnAt σ ρ b:=fun p=>by rw[(OwnAt.obj S p).1] at e;cases e
  show (if OwnAt σ ρ b then none else F' b)=_
  rw[if_neg hp]
  refine E.ff b u ?_
  unfold fA
  rw[if_neg hp]
  exact e
 ·have e:(if OwnAt σ ρ b then none else F' b)=some u:=e
  split at e
  ·cases e
  ·rename_i hp
   unfold unA
   rw[if_neg hp]
   exact E.fh b u e
 ·show (if OwnAt σ ρ b then none else F' b)=F b∨_
  by_cases hp:OwnAt σ ρ b
  ·rw[if_pos hp]
   exact .inl (OwnAt.obj S hp).1.symm
  ·rw[if_neg hp]
   have e1:refA h (OwnAt σ ρ) H b=H b:=by unfold refA;rw[if_neg hp]
   have e2:fA σ ρ (refA h (OwnAt σ ρ) H) F b=F b:=by unfold fA;rw[if_neg hp]
   rcases E.new b (by rw[e1];exact hb) with q | q
   ·exact .inl (q.trans e2)
   ·rw[e1] at q;exact .inr q
 ·obtain⟨o',h1,h2,h3⟩:=Jm b hp
  rw[e] at h2
  rcases h3 with⟨x,rfl⟩ | ⟨x,rfl⟩ | ⟨x,rfl⟩
  ·cases h2
  ·cases h2;exact .inl ⟨_,rfl⟩
  ·cases h2;exact .inr ⟨_,rfl⟩
open Classical in
mutual
theorem xW(S:StE K F H σ ρ)(E:Ext (fA σ ρ (refA h (OwnAt σ ρ) H) F) (refA h (OwnAt σ ρ) H) F' H'):∀{d:D}{v:V},BW d=true→Den K F' d v→Den K (fun b=>if OwnAt σ ρ b then none else F' b) d v
 | .non,_,_,q=>q
 | .bl _,_,_,q=>q
 | .int _,_,_,q=>q
 | .str _,_,_,q=>q
 | .tup ds,_,f,⟨a,vs,h1,h2,h3,h4⟩=>by
   refine⟨a,vs,h1,?_,nQ S E ?_ h3,h4⟩
   ·show (if OwnAt σ ρ a then none else F' a)=_
    rw[if_neg,h2]
    intro hp
    obtain⟨_,o,k1,k2⟩:=OwnAt.obj S hp
    have k3:fA σ ρ (refA h (OwnAt σ ρ) H) F a=some (kJ ((h.get? a).getD {cls:= .none,data:= .fields #[]}) o):=by
     unfold fA refA
     rw[if_pos hp,if_pos hp,k1]
     rfl
    have k4:=E.ff a _ k3
    rw[h2] at k4
    rcases k2 with⟨x,rfl⟩ | ⟨x,rfl⟩ | ⟨x,rfl⟩<;>cases k4
   ·exact f
 | .raw _,_,f,_=>by cases f
 | .exc _,_,f,_=>by cases f
 | .scr _,_,f,_=>by cases f
 | .lst _,_,f,_=>by cases f
 | .dct _ _,_,f,_=>by cases f
 | .dci _ _,_,f,_=>by cases f
theorem nQ(S:StE K F H σ ρ)(E:Ext (fA σ ρ (refA h (OwnAt σ ρ) H) F) (refA h (OwnAt σ ρ) H) F' H'):∀{ds:List D}{vs:List V},uT ds=true→DenL K F' ds vs→DenL K (fun b=>if OwnAt σ ρ b then none else F' b) ds vs
 |[],_,_,q=>q
 |d::ds,_,f,⟨v,r,h1,h2,h3⟩=>by
  unfold uT at f
  rw[Bool.and_eq_true] at f
  exact⟨v,r,h1,xW S E f.1 h2,nQ S E f.2 h3⟩
end
end
section
variable{X:Cx}{Xw:Nat→Hp→Prop}{e:Expr}{δ:DE}{τ:DT}
theorem wL{pins:List (Addr×Obj)}{s:Shared}{F H:Hp}{σ:St}{ρ:a5}(I:Inv X pins σ H s)(S:StE X.K F H σ ρ)(b:Addr)(p:OwnAt σ ρ b)(o:Obj)(u:HO):X.H₀ b≠some (.frz o u):=fun z=>by
 obtain⟨_,o',k1,k2⟩:=OwnAt.obj S p
 have:=I.base.frzs b o u z
 rw[k1] at this
 rcases k2 with⟨x,rfl⟩ | ⟨x,rfl⟩ | ⟨x,rfl⟩<;>cases this
theorem tQ{α:Type}(m:M α):noex m=M.stuck∨∃a,m=M.ret a∧noex m=M.ret a:=by
 rcases m.cs with h | ⟨n,h⟩ | ⟨a,h⟩
 ·subst h;exact .inl rfl
 ·subst h;exact .inl rfl
 ·subst h;exact .inr ⟨a,rfl,rfl⟩
theorem y8(h:o8 X Xw e τ):o8 X Xw e (fun ρ=>noex (τ (BX ρ))):=fun pins s σ H Q I ⟨F,ρ,S,w⟩=>by
 classical
 rcases tQ (τ (BX ρ)) with q | ⟨b,q,q2⟩
 ·have w:WPB Xw F H (noex (τ (BX ρ))) Q:=w
  rw[q] at w
  exact w.elim
 ·have w:WPB Xw F H (noex (τ (BX ρ))) Q:=w
  rw[q2] at w
  refine bY (h pins s σ _ (fun b' H'=>Q b' (unA (OwnAt σ ρ) H')∧∀c,OwnAt σ ρ c→∀o u,H' c=some (.frz o u)→(∃k,u= .dT k)∨∃k,u= .dK k) (Inv.refA (P:=OwnAt σ ρ) I) ⟨_,_,CJ (h:=s.heap) S,?_⟩) fun b' s' ⟨H',I',q1,q3⟩=>⟨_,Inv.unA I' (wL I S) q3,q1⟩
  rw[q]
  intro H' F' E
  obtain⟨E1,q3⟩:=xY S E
  exact⟨w _ _ E1,q3⟩
end
abbrev DF:=a5→M C
def WPF(K:W.Frag)(Xw:Nat→Hp→Prop)(F H:Hp)(m:M C)(Q:VK):Prop:=
 match m with
 |none=>False
 |some (.ok c)=>∀a o H' F',Ext F H F' H'→H' a=some o→F' a=none→H a=none→DenC K F' c o→Q (.ref a) H'
 |some (.ex n)=>∀F' H',Ext F H F' H'→Xw n H'
def LP(K:W.Frag)(Xw:Nat→Hp→Prop)(δ:DF):TE:=fun σ H Q=>∃F ρ,StE K F H σ ρ∧WPF K Xw F H (δ ρ) Q
def Jj(X:Cx)(Xw:Nat→Hp→Prop)(e:Expr)(δ:DF):Prop:=PE X e (LP X.K Xw δ)
def zG(i:Nat)(δ:DF):DS:=fun ρ=>δ ρ>>=fun c=>M.ret (.nx (ρ.set i (some (.ow c))))
theorem StOk.setFresh{K:W.Frag}{F₀ H₀ F H F' H':Hp}{σ:St}{ρ:a5}(s:StOk K F₀ H₀ F H σ ρ){i:Nat}{a:Addr}{o:HO}{c₀:C}(E:Ext F H F' H')(ho:H' a=some o)(nF:F' a=none)(n:H a=none)(h:DenC K F' c₀ o):
 StOk K F₀ H₀ F' H' (σ.set i (some (.ref a))) (ρ.set i (some (.ow c₀))):=by
 have hle:=s.len
 have get:∀(j:Nat) (sl:Sl),(ρ.set i (some (.ow c₀)))[j]? =some (some sl)→(j=i∧i<ρ.length∧sl= .ow c₀)∨(j≠i∧ρ[j]? =some (some sl)):=fun j sl e=>by
  by_cases hj:j=i
  ·subst hj
   have hi:j<ρ.length:=by
    have:=(List.getElem?_eq_some_iff.mp e).1
    simpa using this
   rw[List.getElem?_set_self hi] at e
   cases e
   exact .inl ⟨rfl,hi,rfl⟩
  ·rw[List.getElem?_set_ne (Ne.symm hj)] at e
   exact .inr ⟨hj,e⟩
 have old:∀(j:Nat) (c:C) (b:Addr),ρ[j]? =some (some (.ow c))→σ[j]? =some (some (.ref b))→b≠a:=fun j c b e e' z=>by
  obtain⟨u,h1,b',o,h2,h3,_⟩:=s.st.den j _ e
  rw[h1] at e'
  cases e'
  cases h2
  rw[z,n] at h3
  cases h3
 refine⟨s.ext.trans E,⟨E.fh,fun j sl e=>?_⟩,by simp[hle],fun j c b e e'=>?_,fun j k c c' b e1 e2 e3 e4=>?_⟩
 ·rcases get j sl e with⟨rfl,hi,rfl⟩ | ⟨hj,e⟩
  ·exact⟨.ref a,by rw[List.getElem?_set_self (by omega)],a,_,rfl,ho,nF,h⟩
  ·obtain⟨u,h1,h2⟩:=s.st.den j sl e
   exact⟨u,by rw[List.getElem?_set_ne (Ne.symm hj)];exact h1,h2.ext E⟩
 ·rcases get j _ e with⟨rfl,hi,_⟩ | ⟨hj,e⟩
  ·rw[List.getElem?_set_self (by omega)] at e'
   cases e'
   exact Same.free s.ext.hh n
  ·rw[List.getElem?_set_ne (Ne.symm hj)] at e'
   exact s.own j c b e e'
 ·rcases get j _ e1 with⟨rfl,hi,_⟩ | ⟨hj,e1⟩
  ·rw[List.getElem?_set_self (by omega)] at e3
   cases e3
   rcases get k _ e2 with⟨rfl,_,_⟩ | ⟨hk,e2⟩
   ·rfl
   ·rw[List.getElem?_set_ne (Ne.symm hk)] at e4
    exact absurd rfl (old k c' a e2 e4)
  ·rcases get k _ e2 with⟨HJ,hi,_⟩ | ⟨hk,e2⟩
   ·rw[HJ,List.getElem?_set_self (by omega)] at e4
    cases e4
    rw[List.getElem?_set_ne (Ne.symm hj)] at e3
    exact absurd rfl (old j c a (by assumption) e3)
   ·rw[List.getElem?_set_ne (Ne.symm hj)] at e3
    rw[List.getElem?_set_ne (Ne.symm hk)] at e4
    exact s.sep j k c c' b e1 e2 e3 e4
theorem WPF.mono{K:W.Frag}{Xw:Nat→Hp→Prop}{F H:Hp}{m:M C}{Q Q':VK}(h:WPF K Xw F H m Q)(k:∀v H',Q v H'→Q' v H'):WPF K Xw F H m Q':=by
 match m,h with
 |none,h=>exact h
 |some (.ok d),h=>exact fun a o H' F' e h1 h2 h3 h4=>k _ _ (h a o H' F' e h1 h2 h3 h4)
 |some (.ex n),h=>exact h
theorem WPF.ext{K:W.Frag}{Xw:Nat→Hp→Prop}{F H F1 H1:Hp}{m:M C}{Q:VK}(e:Ext F H F1 H1)(h:WPF K Xw F H m Q):WPF K Xw F1 H1 m Q:=by
 match m,h with
 |none,h=>exact h
 |some (.ok d),h=>exact fun a o H' F' e' h1 h2 h3 h4=>h a o H' F' (e.trans e') h1 h2 (Same.free e.hh h3) h4
 |some (.ex n),h=>exact fun F2 H2 e2=>h F2 H2 (e.trans e2)
theorem WPF.bind{K:W.Frag}{Xw:Nat→Hp→Prop}{F H:Hp}{m:M D}{k:D→M C}{Q:VK}(h:WPF K Xw F H (m>>=k) Q):WP K Xw F H m fun v H1=>∃F1 d,Ext F H F1 H1∧Den K F1 d v∧WPF K Xw F1 H1 (k d) Q:=by
 match m,h with
 |none,h=>exact h
 |some (.ok d),h=>exact fun v H2 F2 e2 q=>⟨F2,d,e2,q,WPF.ext e2 (show WPF K Xw F H (k d) Q from h)⟩
 |some (.ex n),h=>exact h
section
variable{X:Cx}{Xw:Nat→Hp→Prop}{e k v a b:Expr}{es:List Expr}{δ δ':DF}{δk δv δa δb:DE}{δs:DA}{pos pos' p:Pos}{x:Str}{i:Nat}
theorem zh(hN:X.N.Nodup)(hi:X.N[i]? =some x)(hx:Loc X.env.scope x)(he:Jj X Xw e δ)(hf:X.fn x=true∨X.env.scope.names.lookup x=some .local:=by first | exact .inl rfl | exact .inr rfl)
 (hs:swapsWithSole [.Name x pos'] e pos.line X.env=pure false:=by rfl):
 iI X Xw (.Assign [.Name x pos'] e pos) (zG i δ):=fun F₀ H₀=>PS.weak (qb he (bc hN hi hx hf) hs) fun D σ H ⟨F,ρ,s,w⟩=>by
 refine⟨F,ρ,s.st,?_⟩
 unfold zG at w
 match δ ρ,w with
 |none,w=>exact w
 |some (.ok c),w=>exact fun a o H' F' E h1 h2 h3 h4=>w _ F' H' (s.setFresh E h1 h2 h3 h4)
 |some (.ex n),w=>exact fun F' H' e'=>w F' H' (s.ext.trans e')
theorem EW{pins:List (Addr×Obj)}{σ:St}{H H':Hp}{s:Shared}{a:Addr}{y v:V}{u r:Value}{A:Around}{E:Value→Shared→Prop}{Q:Unit→Shared→Prop}(hu:A.units+1<cLine)(I:Inv X pins σ H s)(g:DPut H a y v H')(ry:RelV y u)(rv:RelV v r)(h:∀s',Inv X pins σ H' s'→Q () s'):
 wpAny (model X.prog X.w) A (dictSet a u r) Q E s:=by
 rcases g with⟨aw,k,e,ey,l,eH⟩ | ⟨aw,k,b,e,ey,eb,l,eH⟩
 ·subst ey eH
  obtain⟨z,hd,vs,rel,dd⟩:=BU I.hok e
  have hz:vs.length≤sizeLine:=by rw[←rel.length];exact z
  have hl:(putK aw k v).length≤sizeLine:=by have:=dH aw k v;omega
  refine wpAny_dictSet_pairs (hsz:=hz) (n8 ry) dd fun h' xM hs=>h _ ?_
  have he:∃q,h'.get? a=some q:=let ⟨q,_,_,hq,_⟩:=xM;⟨q,hq⟩
  exact iL I (by rw[e];exact True.intro) hs he (xP hl hd (rel.put k rv) xM)
 ·subst ey eH
  cases (show u=Value.ref b from ry)
  obtain⟨z,hd,xs,rel,dd⟩:=xQ I.hok e
  have hz:xs.length≤sizeLine:=by rw[←Paired.length rel];exact z
  have hl:(putK aw k v).length≤sizeLine:=by have:=dH aw k v;omega
  refine wpAny_dictSet_heap (knd:=tupleKind (bb X.prog X.w)) (hsz:=hz) (by exact(show A.units<cLine by omega)) (jy I.hok eb) dd fun h' xM hs=>h _ ?_
  obtain⟨q,es,ep,hq,h2,h3,h4,_,h5⟩:=xM
  refine iL I (by rw[e];exact True.intro) hs ⟨q,hq⟩ ⟨hl,hd,_,(rel.put k eb rv).keeps fun c ys ec=>?_,q,es,ep,hq,h2,h3,h4,h5⟩
  rw[av (yE ec e (fun z=>nomatch z))]
  exact ec
end
section
variable{X:Cx}{Xw:Nat→Hp→Prop}{e k v a b:Expr}{es:List Expr}{δk δv δa δb:DE}{δs:DA}{pos pos' p:Pos}{x:Str}{i:Nat}
theorem xO{o0:HO}{put:Hp→Addr→V→V→Hp→Prop}(hu:X.A.units+1<cLine)(h0:∀(H:Hp) (h:Heap),sysModules<h.objs.size→ObjOk X.prog X.w H (h.push {cls:= .type "dict",data:= .dict #[]}) h.objs.size o0){tk tv:TE}(hk:PE X k tk)(hv:PE X v tv):
 PE X (.Dict [some k] [v] pos) (fun σ H Q=>∀p,H p=none→tk σ (upd H p o0) fun y H1=>tv σ H1 fun z H2=>∃H3,DPut H2 p y z H3∧Q (.ref p) H3):=by
 intro pins s σ H Q I q
 have hn:=I.hok.fresh (Nat.le_refl s.heap.objs.size)
 have I1:=I.laid (a:=s.heap.objs.size) (o:=o0) (h':=s.heap.push {cls:= .type "dict",data:= .dict #[]}) (t':=s.toks) (fun _ _ q=>Heap.get?_push_of_some _ q) (Nat.le_refl _) (h0 _ s.heap I.big)
 refine wpAny_Dict_any rfl rfl (by simp) (by simp) (bY (zf hk hv Bj pins _ σ _ (fun ps H2=>∃y z H3,ps=[(y,z)]∧DPut H2 s.heap.objs.size y z H3∧Q (.ref s.heap.objs.size) H3) I1 ?_) fun ws s2 ⟨ps,H2,I2,rel,y,z,H3,ep,g,q2⟩=>?_)
 ·refine ?_
  have:=q _ hn
  show tk σ _ fun y H1=>tv σ H1 fun z H2=>∃y' z' H3,[(y,z)]=[(y',z')]∧DPut H2 s.heap.objs.size y' z' H3∧Q (.ref s.heap.objs.size) H3
  have e:(fun (y:V) (H1:Hp)=>tv σ H1 fun z H2=>∃y' z' H3,[(y,z)]=[(y',z')]∧DPut H2 s.heap.objs.size y' z' H3∧Q (.ref s.heap.objs.size) H3)=(fun y H1=>tv σ H1 fun z H2=>∃H3,DPut H2 s.heap.objs.size y z H3∧Q (.ref s.heap.objs.size) H3):=by
   funext y H1
   congr 1
   funext z H2
   refine propext ⟨fun ⟨y',z',H3,ee,r⟩=>?_,fun⟨H3,r⟩=>⟨y,z,H3,rfl,r⟩⟩
   cases ee
   exact⟨H3,r⟩
  rw[e]
  exact this
 ·subst ep
  cases rel with
  | @cons a b as bs h t=>
    cases t
    obtain⟨r1,r2⟩:=h
    unfold storeAll
    rw[List.forIn_cons]
    refine wpAny_bind (wpAny_bind (EW hu I2 g r1 r2 fun s3 I3=>?_))
    refine wpAny_pure ?_
    show wpAny _ _ (forIn ([]:List (Value×Value)) PUnit.unit _) _ _ _
    rw[List.forIn_nil]
    exact wpAny_pure ⟨V.ref s.heap.objs.size,_,I3,rfl,q2⟩
def nL(k v:D):M C:=match dS k with
 |some kk=>M.ret (.dct [kk] [v])
 |none=>M.stuck
theorem wO(hu:X.A.units+64<cLine)(hk:PD X Xw k δk)(hv:PD X Xw v δv):Jj X Xw (.Dict [some k] [v] pos) (fun ρ=>δk ρ>>=fun x=>δv ρ>>=fun y=>nL x y):=
 PE.weak (xO (o0:= .dT []) (put:=DPut) (by omega) (fun H h hb=>qW h hb) hk hv) fun σ H Q ⟨F,ρ,s,w⟩ q hq=>by
  have e0:=Ext.free (o:= .dT []) s.fh hq
  refine⟨F,ρ,s.ext e0,?_⟩
  have w:WPF X.K Xw F H (δk ρ>>=fun x=>δv ρ>>=fun y=>nL x y) Q:=w
  match xo:δk ρ,w with
  |none,w=>exact w
  |some (.ex n),w=>exact fun F' H' e'=>w F' H' (e0.trans e')
  |some (.ok kd),w=>
   intro y H1 F1 e1 q1
   refine⟨F1,ρ,(s.ext e0).ext e1,?_⟩
   have w:WPF X.K Xw F H (δv ρ>>=fun y=>nL kd y) Q:=w
   match Ib:δv ρ,w with
   |none,w=>exact w
   |some (.ex n),w=>exact fun F' H' e'=>w F' H' (e0.trans (e1.trans e'))
   |some (.ok vd),w=>
    intro z H2 F2 e2 q2
    have w3:WPF X.K Xw F H (nL kd vd) Q:=w
    clear w
    unfold nL at w3
    cases B5:dS kd with
    |none=>rw[B5] at w3;exact w3.elim
    |some kk=>
     rw[B5] at w3
     have E:=e1.trans e2
     have HX:H2 q=some (.dT []):=E.hh _ _ aF
     have Jz:F2 q=none:=by
      have:=E.old (a:=q) (o:= .dT []) aF (fun _ z=>nomatch z)
      rw[this]
      exact Same.free s.fh hq
     unfold dS at B5
     split at B5
     ·rename_i es
      obtain⟨b,ws,rfl,k2,k3,_⟩:=Den.mono e2.ff q1
      have e5:=gh B5 k3
      subst e5
      refine⟨_,DPut.t (k:=kk) HX (e2.fh _ _ k2) (by rw[sizeLine_eq];decide),?_⟩
      refine w3 q (.dT (putK [] kk z)) _ F2 ⟨fun c u hc=>?_,(e0.trans E).ff,fun c u hc=>?_,(e0.trans E).new⟩ aF Jz hq ⟨[z],rfl, .cons q2 .nil,rfl,show 1≤lim by decide⟩
      ·rw[av (fun zz=>by rw[zz,hq] at hc;cases hc)]
       exact(e0.trans E).hh c u hc
      ·rw[av (fun zz=>by rw[zz,Jz] at hc;cases hc)]
       exact e2.fh c u hc
     ·cases B5
theorem uK{K:W.Frag}{F H:Hp}{d k:D}{x y:V}{o:Option D}(s:Same F H)(hd:Den K F d x)(hk:Den K F k y)(e:z5 d k=some o):
 ∃a ov,x= .ref a∧mX H a y ov∧ov.isSome=o.isSome∧∀d',o=some d'→∃v,ov=some v∧Den K F d' v:=by
 obtain⟨a,ov,h1,h2,h3,h4⟩:=uL (σ:=[some x]) (ρ:=[some (.fz d)]) (i:=0) (H:=H) ⟨s,fun i sl q=>by
  match i,q with
  |0,q=>cases q;exact⟨x,rfl,hd⟩
  |i+1,q=>simp at q⟩ rfl hk e
 cases h1
 exact⟨a,ov,rfl,h2,h3,h4⟩
def kK(neg:Bool)(k d:D):M D:=match z5 d k with
 |some o=>M.ret (.bl (if neg then !o.isSome else o.isSome))
 |none=>M.stuck
def D9(neg:Bool):R2:=fun y x H Q=>∃a o,x= .ref a∧mX H a y o∧Q (.bl (if neg then !o.isSome else o.isSome)) H
theorem Du(hu:X.A.units+64<cLine):OpR X (compareOp .In) (D9 false):=fun pins s σ H y x v u Q I ry rx ⟨a,o,ex,g,q⟩=>by
 subst ex
 obtain rfl:u=Value.ref a:=rx
 exact EV (by omega) I g ry fun s' I'=>⟨.bl o.isSome,_,I',rfl,q⟩
theorem wI(hu:X.A.units+64<cLine):OpR X (compareOp .NotIn) (D9 true):=fun pins s σ H y x v u Q I ry rx ⟨a,o,ex,g,q⟩=>by
 subst ex
 obtain rfl:u=Value.ref a:=rx
 exact Ag (by omega) I g ry fun s' I'=>⟨.bl (!o.isSome),_,I',rfl,q⟩
theorem vf{K:W.Frag}{neg:Bool}:qF K (D9 neg) (kK neg):=fun Xw F H y x dk dd Q s hk hd w=>by
 unfold kK at w
 cases he:z5 dd dk with
 |none=>rw[he] at w;exact w.elim
 |some o=>
  rw[he] at w
  obtain⟨a,ov,h1,h2,h3,_⟩:=uK s hd hk he
  refine⟨a,ov,h1,h2,?_⟩
  rw[h3]
  exact WP.now w s rfl
theorem DH(hu:X.A.units+64<cLine)(ha:PD X Xw a δa)(hb:PD X Xw b δb)(hm:behindInMarks .In b=false:=by rfl):PD X Xw (.Compare a [.In] [b] pos) (d2 (kK false) δa δb):=mr (Du hu) vf ha hb hm
theorem oP(hu:X.A.units+64<cLine)(ha:PD X Xw a δa)(hb:PD X Xw b δb)(hm:behindInMarks .NotIn b=false:=by rfl):o8 X Xw (.Compare a [.NotIn] [b] pos) (c0 (d2 (kK true) δa δb)):=g0 (wI hu) vf ha hb hm
def ra(d k:D):M D:=match z5 d k with
 |some (some v)=>M.ret v
 |_=>M.stuck
theorem DJ(hu:X.A.units+64<cLine)(ha:PD X Xw a δa)(hb:PD X Xw b δb)(hs:Cq b:=by intro _ _;rfl):PD X Xw (.Subscript a b pos) (d2 ra δa δb):=
 PE.weak (Be (by omega) ha hb hs) fun σ H Q ⟨F,ρ,s,w⟩=>by
  refine⟨F,ρ,s,WP.mono (WP.bind w) fun x H1 ⟨F1,d,e1,q1,w1⟩=>?_⟩
  refine⟨F1,ρ,s.ext e1,WP.mono (WP.bind w1) fun y H2 ⟨F2,k,e2,q2,w2⟩=>?_⟩
  unfold ra at w2
  cases he:z5 d k with
  |none=>rw[he] at w2;exact w2.elim
  |some o=>
   cases o with
   |none=>rw[he] at w2;exact w2.elim
   |some d'=>
    rw[he] at w2
    obtain⟨a,ov,h1,h2,h3,h4⟩:=uK e2.fh (Den.mono e2.ff q1) q2 he
    obtain⟨v,rfl,hd⟩:=h4 d' rfl
    exact⟨a,v,h1,h2,WP.now w2 e2.fh hd⟩
end
section
variable{X:Cx}{pins:List (Addr×Obj)}{σ:St}{H:Hp}{s:Shared}{h':Heap}
theorem Inv.turnedLaid{t':Nat}{ch:List Addr}{a:Addr}{o:HO}(I:Inv X pins σ H s)(k:∀b q,b∉ch→s.heap.get? b=some q→h'.get? b=some q)(hf:∀b∈ch,mY X pins H b)(hp:s.heap.objs.size≤a)(new:ObjOk X.prog X.w (upd H a o) h' a o):
 Inv X pins σ (upd H a o) {s with heap:=h',toks:=t'}:=by
 have hn:=I.hok.fresh hp
 have Cb:∀b u,H b=some u→b∉ch:=fun b u e z=>by rw[(hf b z).1] at e;cases e
 refine I.step (g':=s.gens) (d':=s.drawn) (ch:=ch) (fun b hb=>?_) (fun b q _ _ hc e _=>k b q hc e) (fun b q _ _ hc e _=>⟨q.slots,k b q hc e⟩) (fun b q hc e n=>?_)
  (fun b q hc e=>⟨q,k b q hc e⟩) (fun b xs e=>?_) (fun b q u e=>?_) (fun b ps e=>⟨#[],?_⟩) (fun m hm=>?_) (fun b u e=>?_) I.bare
 ·obtain⟨f0,f1,f2,f3,f4,f5⟩:=hf b hb
  exact⟨f3,f1,f4,f5⟩
 ·rw[av (fun z=>by rw[z] at e;exact absurd (Heap.lt_size e) (Nat.not_lt.mpr hp))];exact n
 ·rw[av (aV e hn)];exact e
 ·rw[av (aV e hn)];exact e
 ·rw[av (aV e hn),e];simp
 ·obtain⟨q,es,ep,ho,r⟩:=hm
  exact⟨q,es,ep,k _ q (fun z=>(hf _ z).2.1 rfl) ho,r⟩
 ·by_cases hb:b=a
  ·subst hb;rw[aF] at e;cases e;exact new
  ·rw[av hb] at e
   refine(I.hok b u e).stay (fun c v hc q=>k c v ?_ q) (fun c q=>by rw[av (aV q hn)];exact q) fun c xs q=>by rw[av (aV q hn)];exact q
   rcases hc with z | z
   ·rw[z];exact Cb b u e
   ·exact Cb c _ z
theorem Inv.turnedL{t':Nat}{ch:List Addr}(I:Inv X pins σ H s)(k:∀b q,b∉ch→s.heap.get? b=some q→h'.get? b=some q)(hf:∀b∈ch,mY X pins H b):Inv X pins σ H {s with heap:=h',toks:=t'}:=by
 have Cb:∀b u,H b=some u→b∉ch:=fun b u e z=>by rw[(hf b z).1] at e;cases e
 refine I.step (g':=s.gens) (d':=s.drawn) (ch:=ch) (fun b hb=>?_) (fun b q _ _ hc e _=>k b q hc e) (fun b q _ _ hc e _=>⟨q.slots,k b q hc e⟩) (fun b q hc e n=>n)
  (fun b q hc e=>⟨q,k b q hc e⟩) (fun b xs e=>e) (fun b q u e=>e) (fun b ps e=>⟨#[],by rw[e];simp⟩) (fun m hm=>?_) (fun b u e=>?_) I.bare
 ·obtain⟨f0,f1,f2,f3,f4,f5⟩:=hf b hb
  exact⟨f3,f1,f4,f5⟩
 ·obtain⟨q,es,ep,ho,r⟩:=hm
  exact⟨q,es,ep,k _ q (fun z=>(hf _ z).2.1 rfl) ho,r⟩
 ·refine(I.hok b u e).stay (fun c v hc q=>k c v ?_ q) (fun c q=>q) fun c xs q=>q
  rcases hc with z | z
  ·rw[z];exact Cb b u e
  ·exact Cb c _ z
end
def Jh(K:W.Frag)(a:Addr):It:=
 ⟨fun i H=>∃xs x,SqL K H a xs∧xs[i]? =some x,fun i H x H'=>∃p,x= .ref p∧H p=none∧∃v,(∀xs,SqL K H a xs→xs[i]? =some v)∧H'=upd H p (.tup [.int (i:Int),v]),fun i H=>∃xs,SqL K H a xs∧xs.length≤i⟩
theorem xa{P:Program}{w:World}{K:W.Frag}{es:List Expr}{x1}{tp:Pos}(l e it:Addr)(JH:e≠it):
 Turn P w K (.Tuple es x1 tp) (Jh K l) [e,it] e (fun i h=>∃old,IsEnum h e it (i:Int) old∧h.IsListIter it l i) where
 mem:=by simp
 obj:=fun i h ⟨old,zQ,uw⟩ b hb=>by
  rcases List.mem_cons.mp hb with z | z
  ·subst z;exact⟨_,zQ,fun v z=>nomatch z⟩
  ·have z:b=it:=by simpa using z
   subst z
   obtain⟨o,e1,c,d⟩:=uw
   exact⟨o,e1,fun v z=>by rw[d] at z;cases z⟩
 keep:=fun i h h' ⟨old,zQ,uw⟩ k=>⟨old,k e (by simp) _ zQ,uw.at fun o q=>k it (by simp) o q⟩
 item:=by
  intro X hP hw hK hc i pins s σ H E I hf st hg
  subst hP hw hK
  obtain⟨old,zQ,uw⟩:=st
  obtain⟨xs,x,hq,hx⟩:=hg
  obtain⟨aA,rv,p,hz⟩:=I.list hq
  obtain⟨u,hu,ru⟩:=rv.get hx
  refine wpAny_pyNext_enum_item zQ uw p.isList (x:=u) (by simpa using hu) JH fun h1 k1 k2 k3 k4 k5=>?_
  refine⟨_,rfl,wpAny_letOwnedTupleGo_enum k1 fun h2 m1 m2=>?_⟩
  have dB:s.heap.objs.size≠e:=Nat.ne_of_gt (Heap.lt_size zQ)
  have Jd:h2.get? s.heap.objs.size=some {cls:= .type "tuple",data:= .seq #[.int i s.toks,u]}:=(m2.2 _ dB).trans k3
  have keep:∀b q,b∉[e,it]→s.heap.get? b=some q→h2.get? b=some q:=fun b q hb e1=>by
   have GO:b≠e:=fun z=>hb (by simp[z])
   have Ap:b≠it:=fun z=>hb (by simp[z])
   exact(m2.2 b GO).trans (k5 b q GO Ap e1)
  have I2:Inv X pins σ (upd H s.heap.objs.size (.tup [.int (i:Int),x])) {s with heap:=h2,toks:=s.toks+1}:=by
   refine Inv.turnedLaid (s:=s) I keep hf (Nat.le_refl _) ⟨?_,[.int i s.toks,u], .cons ⟨_,rfl⟩ (.cons ru .nil),_,Jd,rfl,_,rfl⟩
   rw[sizeLine_eq];show 2≤_;decide
  refine⟨.ref s.heap.objs.size,_,I2,rfl,⟨_,rfl,I.hok.fresh (Nat.le_refl _),x,fun ys hy=>by rw[I.list_inj hy hq];exact hx,rfl⟩,⟨u,?_,?_⟩,fun b hb=>?_⟩
  ·have:((i+1:Nat):Int)=(i:Int)+1:=by push_cast;rfl
   rw[this];exact m1
  ·exact k2.at fun o q=>(m2.2 it (Ne.symm JH)).trans q
  ·rw[av (fun z=>by
    rcases List.mem_cons.mp hb with y | y
    ·exact absurd (Heap.lt_size zQ) (by rw[←y,z];exact Nat.lt_irrefl _)
    ·have y:b=it:=by simpa using y
     obtain⟨o,q1,_⟩:=id uw
     exact absurd (Heap.lt_size q1) (by rw[←y,z];exact Nat.lt_irrefl _))]
   exact(hf b hb).1
 done:=by
  intro X hP hw hK hc i pins s σ H E I hf st hg
  subst hP hw hK
  obtain⟨old,zQ,uw⟩:=st
  obtain⟨xs,hq,hx⟩:=hg
  obtain⟨aA,rv,p,hz⟩:=I.list hq
  have hl:=rv.length
  exact wpAny_pyNext_enum_end (I.ok.hd hc) zQ uw p.isList (by simp;omega) fun h' eb=>⟨rfl,Inv.turnedL (t':=s.toks) (ch:=[it]) I (fun b q hb e1=>eb b q (fun z=>hb (by simp[z])) e1) fun b hb=>hf b (List.mem_cons_of_mem _ hb)⟩
 self:=fun A i s Q E st h=>by
  obtain⟨old,zQ,uw⟩:=st
  exact wpAny_pyIter_enum zQ h
theorem yt{K:W.Frag}{F:Hp}{a:Addr}{vs:List V}{ds:List D}(h:SqL K F a vs)(hd:DenL K F ds vs):ItD K F (Jh K a) (ds.mapIdx fun i d=> .tup [.int (i:Int),d]):=fun F' H' i s1 s2=>by
 have hs:=Same.seq s2 (Same.seq s1 h)
 refine⟨fun d e=>?_,fun hl=>⟨vs,hs,by rw[List.length_mapIdx,hd.len] at hl;exact hl⟩⟩
 rw[List.getElem?_mapIdx] at e
 cases q:ds[i]? with
 |none=>rw[q] at e;cases e
 |some d0=>
  rw[q] at e
  cases e
  obtain⟨v,e1,q1⟩:=hd.get q
  refine⟨⟨vs,v,hs,e1⟩,fun x H'' ⟨p,y1,y2,u,y3,y4⟩=>?_⟩
  subst y1 y4
  have:=y3 vs hs
  rw[e1] at this
  cases this
  have E:=Ext.lay (o:= .tup [.int (i:Int),v]) s2 y2
  exact⟨_,E,p,_,rfl,aF, .cons rfl (.cons (Den.mono E.ff (Den.mono s1 q1)) .nil),by show 2≤lim;decide⟩
section
variable{X:Cx}{Xw:Nat→Hp→Prop}{tg e:Expr}{es:List Expr}{δ δi:DE}{δs:DA}{pos p tp:Pos}{x1:Nat}
def nP:List D→M (List D)
 |[.lst ds]=>M.ret (ds.mapIdx fun i d=> .tup [.int (i:Int),d])
 |_=>M.stuck
theorem rX(hg:Gl X "enumerate")(hm:X.mg "enumerate"=none)(ha:k7 X Xw [e] δs)(hs:starEach [e] X.env=[(false,eval e X.env)]:=by rfl):uH X Xw (.Tuple es x1 tp) (.Call (.Name "enumerate" p) [e] [] pos) (fun ρ=>δs ρ>>=nP):=by
 intro pins s σ H R I ⟨F,ρ,S,w⟩
 refine Call_ (eV I hg hm (show bootBuiltins "enumerate"=some (.type "enumerate") from rfl) (PyProof.Rows.callWith_type1 (bY (ha pos pins s σ H (fun vs H1=>∃F1 ds,Ext F H F1 H1∧DenL X.K F1 ds vs∧WPI X.K Xw F1 H1 (nP ds) R) I ⟨F,ρ,S,WPI.bindL w⟩) fun us s1 ⟨vs,H1,I1,r1,F1,ds,e1,q1,w1⟩=>?_) hs rfl))
 unfold nP at w1
 split at w1
 ·rename_i ds
  obtain⟨v,rfl,h1⟩:=q1.one
  obtain⟨a,xs,rfl,h2,h3,h4⟩:=h1
  obtain⟨u,rfl,r2⟩:=r1.one
  cases (show u=_ from r2)
  obtain⟨aA,rv,pl,hz⟩:=I1.list (SqL.of (K:=X.K) (e1.fh _ _ h2))
  refine call_enumerate_list pl.isList fun h' k1 k2 k3 k4=>?_
  refine wpAny_pyIter_enum k1 ?_
  refine⟨s1.heap.objs.size+1,[s1.heap.objs.size+1,s1.heap.objs.size],_,_,H1,rfl,I1.kept (t':=s1.toks) fun b o e=>k4 b o e,xa a _ _ (Nat.ne_of_gt (Nat.lt_succ_self _)),⟨.none,k1,k2⟩,fun b hb=>?_,w1 _ _ _ (Ext.refl e1.fh) (yt (SqL.of h2) h3)⟩
  have e:s1.heap.objs.size≤b:=by
   rcases List.mem_cons.mp hb with z | z
   ·rw[z];exact Nat.le_succ _
   ·have z:b=s1.heap.objs.size:=by simpa using z
    rw[z];exact Nat.le_refl _
  exact I1.fpOk e (I1.hok.fresh e)
 ·exact w1.elim
end
def AK:Key→D
 | .inl i=> .int i
 | .inr x=> .str x
def BM(H:Hp)(d:Addr)(od:Obj)(i:Nat)(x:V):Prop:=
 (∃aw k b,H d=some (.frz od (.dT aw))∧(aw.map (·.1))[i]? =some k∧x= .ref b∧H b=some (.tup (k.map kV)))∨
 ∃aw k,H d=some (.frz od (.dK aw))∧(aw.map (·.1))[i]? =some k∧x=kV k
def Jg(d:Addr)(od:Obj):It:=
 ⟨fun i H=>(∃aw,H d=some (.frz od (.dT aw))∧i<aw.length)∨∃aw,H d=some (.frz od (.dK aw))∧i<aw.length,fun i H x H'=>H'=H∧BM H d od i x,
  fun i H=>(∃aw,H d=some (.frz od (.dT aw))∧aw.length≤i)∨∃aw,H d=some (.frz od (.dK aw))∧aw.length≤i⟩
theorem kC{α β γ:Type}{R:α→β→Prop}{f:α→γ}{g:β→γ}(h:∀a b,R a b→f a=g b):∀{l:List α}{m:List β},Paired R l m→l.map f=m.map g
 |_,_, .nil=>rfl
 |_,_, .cons r t=>by rw[List.map_cons,List.map_cons,h _ _ r,kC h t]
theorem ix{α β:Type}{R:α→β→Prop}:∀{l:List α}{m:List β}{i:Nat}{a:α},Paired R l m→l[i]? =some a→∃b,m[i]? =some b∧R a b
 |_,_,i,_, .nil,e=>by simp at e
 |_,_,0,_, .cons r t,e=>by simp at e;subst e;exact⟨_,rfl,r⟩
 |_,_,i+1,_, .cons r t,e=>by
  obtain⟨b,e1,e2⟩:=ix (i:=i) t (by simpa using e)
  exact⟨b,by simpa using e1,e2⟩
theorem wM{prog:Program}{w:World}{κ:Type}[DecidableEq κ]{knd:KeyKind prog w κ}:∀{es:List DictEntry}{aw:List (κ×Value)}{i:Nat}{kv:κ×Value},Pairs knd es aw→aw[i]? =some kv→∃e,es[i]? =some e∧knd.is kv.1 e.key=true:=by
 intro es aw i kv h e
 induction h generalizing i with
 |nil=>simp at e
 | @cons en Md Ex LL h1 h2 h3 ih=>
   cases i with
   |zero=>simp at e;subst e;exact⟨en,rfl,h1⟩
   |succ i=>
    obtain⟨q,e1,e2⟩:=ih (i:=i) (by simpa using e)
    exact⟨q,by simpa using e1,e2⟩
theorem Di{k:Key}{u:Value}(h:lK k u=true):RelV (kV k) u:=by
 rcases bB h with⟨i,t,rfl,rfl⟩ | ⟨x,t,rfl,rfl⟩
 ·exact⟨t,rfl⟩
 ·exact⟨t,rfl⟩
theorem lq{X:Cx}{pins:List (Addr×Obj)}{σ:St}{H:Hp}{s:Shared}{d:Addr}{od:Obj}{n:Nat}(I:Inv X pins σ H s)
 (h:(∃aw,H d=some (.frz od (.dT aw))∧n=aw.length)∨∃aw,H d=some (.frz od (.dK aw))∧n=aw.length):
 ∃es ep,(d==sysModules)=false∧s.heap.get? d=some od∧od.ExactDict∧od.data= .dict es ep∧es.size=n∧∀i,i<n→∃e x,es[i]? =some e∧RelV x e.key∧BM H d od i x:=by
 rcases h with⟨aw,e,rfl⟩ | ⟨aw,e,rfl⟩
 ·obtain⟨ho,z,lo,xs,rel,o,es,ep,h1,h2,h3,h4,h5⟩:=(show ObjOk X.prog X.w H s.heap d (.frz od (.dT aw)) from I.hok d _ e)
  rw[ho] at h1
  cases h1
  have hl:es.size=aw.length:=by
   rw[←Array.length_toList,h4,List.length_map]
   exact(Paired.length rel).symm
  refine⟨es,ep,lo,ho,h2,h3,hl,fun i hi=>?_⟩
  obtain⟨q,e1,e2,e3,e4⟩:=ix rel (List.getElem?_eq_getElem hi)
  refine⟨entryOfKey (tupleKind (bb X.prog X.w)) q, .ref q.2.1,?_,rfl, .inl ⟨aw,aw[i].1,q.2.1,e,?_,rfl,e3⟩⟩
  ·rw[←Array.getElem?_toList,h4,List.getElem?_map,e1]
   rfl
  ·rw[List.getElem?_map,List.getElem?_eq_getElem hi]
   rfl
 ·obtain⟨ho,z,lo,vs,rel,o,es,ep,h1,h2,h3,h4,h5,h6⟩:=(show ObjOk X.prog X.w H s.heap d (.frz od (.dK aw)) from I.hok d _ e)
  rw[ho] at h1
  cases h1
  have hl:es.size=aw.length:=by
   rw[←Array.length_toList,h5.length]
   exact(Paired.length rel).symm
  refine⟨es,ep,lo,ho,h2,h3,hl,fun i hi=>?_⟩
  obtain⟨q,e1,e2,e3⟩:=ix rel (List.getElem?_eq_getElem hi)
  obtain⟨en,e4,e5⟩:=wM h5 e1
  refine⟨en,kV aw[i].1,by rw[←Array.getElem?_toList];exact e4,?_, .inr ⟨aw,aw[i].1,e,by rw[List.getElem?_map,List.getElem?_eq_getElem hi];rfl,rfl⟩⟩
  rw[e2]
  exact Di e5
theorem xb{P:Program}{w:World}{K:W.Frag}{tg:Expr}(d it:Addr)(od:Obj)(es:Array DictEntry)(ep:Nat)(kL:od.data= .dict es ep):
 Turn P w K tg (Jg d od) [it] it (fun i h=>h.IsKeyIter it d i es.size ep) where
 mem:=by simp
 obj:=fun i h st b hb=>by
  have e:b=it:=by simpa using hb
  subst e
  obtain⟨o,e,c,dd⟩:=st
  exact⟨o,e,fun v z=>by rw[dd] at z;cases z⟩
 keep:=fun i h h' st k=>st.at fun o e=>k it (by simp) o e
 item:=by
  intro X hP hw hK hc i pins s σ H E I hf st hg
  subst hP hw hK
  obtain⟨n,hn,hi⟩:∃n,((∃aw,H d=some (.frz od (.dT aw))∧n=aw.length)∨∃aw,H d=some (.frz od (.dK aw))∧n=aw.length)∧i<n:=by
   rcases hg with⟨aw,e,hi⟩ | ⟨aw,e,hi⟩
   ·exact⟨_, .inl ⟨aw,e,rfl⟩,hi⟩
   ·exact⟨_, .inr ⟨aw,e,rfl⟩,hi⟩
  obtain⟨Ex,Aj,lo,ho,hx,sR,hsz,hk⟩:=lq I hn
  rw[kL] at sR
  cases sR
  obtain⟨en,x,e1,rx,ka⟩:=hk i hi
  obtain⟨f0,f1,f2,f3,f4,f5⟩:=hf it (by simp)
  refine rD st ho kL e1 fun h' mM sb=>?_
  have I1:Inv X pins σ H {s with heap:=h'}:=I.turned (t':=s.toks) (fun b o hb e=>(sb.2 b hb).trans e) f0 f1 f3 f4 f5
  obtain⟨o,e2,c,dd⟩:=id mM
  exact⟨_,rfl,nT (s:={s with heap:=h'}) e2 c dd (by decide) ⟨x,H,I1,rx,⟨rfl,ka⟩,mM,fun b hb=>(hf b hb).1⟩⟩
 done:=by
  intro X hP hw hK hc i pins s σ H E I hf st hg
  subst hP hw hK
  obtain⟨n,hn,hi⟩:∃n,((∃aw,H d=some (.frz od (.dT aw))∧n=aw.length)∨∃aw,H d=some (.frz od (.dK aw))∧n=aw.length)∧n≤i:=by
   rcases hg with⟨aw,e,hi⟩ | ⟨aw,e,hi⟩
   ·exact⟨_, .inl ⟨aw,e,rfl⟩,hi⟩
   ·exact⟨_, .inr ⟨aw,e,rfl⟩,hi⟩
  obtain⟨Ex,Aj,lo,ho,hx,sR,hsz,hk⟩:=lq I hn
  rw[kL] at sR
  cases sR
  obtain⟨f0,f1,f2,f3,f4,f5⟩:=hf it (by simp)
  exact nO (I.ok.hd hc) st (by omega) ho kL fun h' eb=>⟨rfl,I.turned (t':=s.toks) (fun b o hb e=>eb b o hb e) f0 f1 f3 f4 f5⟩
 self:=fun _ _ _ _ _ st h=>wpAny_pyIter_keyiter st h
def tupK(k:List Key):D:= .tup (k.map AK)
def vc:Key→Bool
 | .inl _=>true
 | .inr x=>decide (x.length≤lim)
def j8:D→M (List D)
 | .dct ks _=>if ks.all (fun k=>decide (k.length≤lim)&&k.all vc) then M.ret (ks.map tupK) else M.stuck
 | .dci ks _=>if ks.all vc then M.ret (ks.map AK) else M.stuck
 |_=>M.stuck
theorem rm{K:W.Frag}{F:Hp}{k:Key}(h:vc k=true):Den K F (AK k) (kV k):=by
 cases k with
 |inl i=>exact rfl
 |inr x=>exact⟨rfl,of_decide_eq_true h⟩
theorem n9{K:W.Frag}{F:Hp}:∀{k:List Key},k.all vc=true→DenL K F (k.map AK) (k.map kV)
 |[],_=>rfl
 |x::k,h=>by
  rw[List.all_cons,Bool.and_eq_true] at h
  exact .cons (rm h.1) (n9 h.2)
theorem yu{K:W.Frag}{F:Hp}{a:Addr}{ob:Obj}{d:D}{ds:List D}(hd:Den K F d (.ref a))(hF:∃u,F a=some (.frz ob u))(e:j8 d=M.ret ds):ItD K F (Jg a ob) ds:=fun F' H' i s1 s2=>by
 unfold j8 at e
 split at e
 ·rename_i ks es
  split at e
  ·rename_i hok
   obtain rfl:=eP e
   obtain⟨a',LN,vs,z,h2,h3,h4,h5⟩:=hd
   cases z
   obtain⟨u,hu⟩:=hF
   rw[h2] at hu
   cases hu
   have hh:=s2 _ _ (s1 _ _ h2)
   have hz:=g6 (a:=ks) (b:=vs) (by rw[h4];exact h3.len)
   have hl:(ks.zip vs).length=ks.length:=by rw[←List.length_map (f:=(·.1)),hz]
   refine⟨fun d e=>?_,fun hle=> .inl ⟨_,hh,by rw[hl];simpa using hle⟩⟩
   rw[List.getElem?_map] at e
   cases q:ks[i]? with
   |none=>rw[q] at e;cases e
   |some k=>
    rw[q] at e
    cases e
    have hi:=(List.getElem?_eq_some_iff.mp q).1
    refine⟨.inl ⟨_,hh,by rw[hl];exact hi⟩,fun x H'' ⟨y1,y2⟩=>?_⟩
    subst y1
    have hk:=List.all_eq_true.mp hok k (List.mem_of_getElem? q)
    rw[Bool.and_eq_true] at hk
    rcases y2 with⟨aw,k',b,q1,q2,rfl,q3⟩ | ⟨aw,k',q1,q2,rfl⟩
    ·rw[hh] at q1
     cases q1
     rw[hz,q] at q2
     cases q2
     have E:=Ext.tup (F:=F') s2 q3
     exact⟨_,E,b,_,rfl,aF,n9 hk.2,by rw[List.length_map];exact of_decide_eq_true hk.1⟩
    ·rw[hh] at q1;cases q1
  ·exact(gK e).elim
 ·rename_i ks es
  split at e
  ·rename_i hok
   obtain rfl:=eP e
   obtain⟨a',LN,vs,z,h2,h3,h4,h5⟩:=hd
   cases z
   obtain⟨u,hu⟩:=hF
   rw[h2] at hu
   cases hu
   have hh:=s2 _ _ (s1 _ _ h2)
   have hz:=g6 (a:=ks) (b:=vs) (by rw[h4];exact h3.len)
   have hl:(ks.zip vs).length=ks.length:=by rw[←List.length_map (f:=(·.1)),hz]
   refine⟨fun d e=>?_,fun hle=> .inr ⟨_,hh,by rw[hl];simpa using hle⟩⟩
   rw[List.getElem?_map] at e
   cases q:ks[i]? with
   |none=>rw[q] at e;cases e
   |some k=>
    rw[q] at e
    cases e
    have hi:=(List.getElem?_eq_some_iff.mp q).1
    refine⟨.inr ⟨_,hh,by rw[hl];exact hi⟩,fun x H'' ⟨y1,y2⟩=>?_⟩
    subst y1
    have hk:=List.all_eq_true.mp hok k (List.mem_of_getElem? q)
    rcases y2 with⟨aw,k',b,q1,q2,rfl,q3⟩ | ⟨aw,k',q1,q2,rfl⟩
    ·rw[hh] at q1;cases q1
    ·rw[hh] at q1
     cases q1
     rw[hz,q] at q2
     cases q2
     exact⟨F',Ext.refl s2,rm hk⟩
  ·exact(gK e).elim
 ·exact(gK e).elim
section
variable{X:Cx}{Xw:Nat→Hp→Prop}{tg l:Expr}{δ:DE}
theorem y0(h:PD X Xw l δ):uH X Xw tg l (fun ρ=>δ ρ>>=j8):=by
 intro pins s σ H R I ⟨F,ρ,S,w⟩
 refine bY (h pins s σ H (fun v H1=>∃F1 d,Ext F H F1 H1∧Den X.K F1 d v∧WPI X.K Xw F1 H1 (j8 d) R) I ⟨F,ρ,S,WPI.bind w⟩) fun u s1 ⟨v,H1,I1,r1,F1,d,e1,q1,w1⟩=>?_
 rcases(j8 d).cs with z | ⟨n,z⟩ | ⟨ds,z⟩
 ·rw[z] at w1;exact w1.elim
 ·exfalso
  unfold j8 at z
  split at z
  ·split at z<;>cases z
  ·split at z<;>cases z
  ·cases z
 ·rw[z] at w1
  obtain⟨a,ob,u',rfl,hF,hn⟩:∃a ob u',v= .ref a∧F1 a=some (.frz ob u')∧∃n,((∃aw,H1 a=some (.frz ob (.dT aw))∧n=aw.length)∨∃aw,H1 a=some (.frz ob (.dK aw))∧n=aw.length):=by
   unfold j8 at z
   split at z
   ·obtain⟨a,ob,vs,e,h2,_⟩:=q1;exact⟨a,ob,_,e,h2,_, .inl ⟨_,e1.fh _ _ h2,rfl⟩⟩
   ·obtain⟨a,ob,vs,e,h2,_⟩:=q1;exact⟨a,ob,_,e,h2,_, .inr ⟨_,e1.fh _ _ h2,rfl⟩⟩
   ·exact(gK z).elim
  obtain⟨n,hn⟩:=hn
  cases (show u=_ from r1)
  obtain⟨es,ep,lo,ho,hx,hd,hsz,hk⟩:=lq I1 hn
  refine n6 lo ho hx hd ?_
  refine⟨s1.heap.objs.size,[s1.heap.objs.size],_,_,H1,rfl,I1.kept (t':=s1.toks) fun b o e=>Heap.get?_push_of_some _ e,xb a _ ob es ep hd,⟨_,Heap.get?_push_size _ rfl,rfl,rfl⟩,fun b hb=>?_,w1 _ _ _ (Ext.refl e1.fh) (yu q1 ⟨_,hF⟩ z)⟩
  have e:b=s1.heap.objs.size:=by simpa using hb
  subst e
  exact I1.fpOk (Nat.le_refl _) (I1.hok.fresh (Nat.le_refl _))
end
end L3
namespace L3
open PySem
section
variable{prog:Program}{w:World}{K:Type}[DecidableEq K]{knd:HeapKind prog w K}{A:Around}{E:Value→Shared→Prop}{s:Shared}
theorem mK{d a:Addr}{xs:List (K×Addr×Value)}{k:K}{v:Value}{Q:Unit→Shared→Prop}(hu:knd.room A)(As:knd.is s.heap k a)(hm:s.heap.DictOfH knd d xs)(hsz:xs.length≤sizeLine)
 (hQ:∀h',h'.DictOfH knd d (storedH xs k a v)→Heap.SameBut d s.heap h'→Q () {s with heap:=h'}):wpAny (model prog w) A (dictSetHashed d (.ref a) (knd.hash k) v) Q E s:=by
 obtain⟨o,es,ep,ho,hc,hd,he,HH,hn⟩:=hm
 unfold dictSetHashed
 refine wpAny_holding (wpAny_bind (wpAny_dictFind_heap hu As ho hd he HH hn (fun v9=>?_) fun j p hj=>?_))
 ·have e0:=atKey_none_of_get v9
  have hz:es.size≤sizeLine:=by rw[size_of_entries he];exact hsz
  refine wpAny_bind (wpAny_rule (wpAny_updateDictKeys (hz:=hz) ho hd (hQ _ ?_ (Heap.SameBut.update ..))))
  rw[storedH_new e0]
  refine⟨_,_,ep+1,Heap.get?_update_self _ ho (Obj.isFreed_of_dict (Obj.data_mapDictKeys hd _)),hc.mapDictKeys _,Obj.data_mapDictKeys hd _,by simp[he,entryOfKey],fun x hx=>?_,?_⟩
  ·rcases List.mem_append.mp hx with hx | hx
   ·exact knd.keeps (HH x hx) ho hd (Heap.SameBut.update ..)
   ·obtain rfl:x=(k,a,v):=by simpa using hx
    exact knd.keeps As ho hd (Heap.SameBut.update ..)
  ·rw[List.map_append]
   refine List.nodup_append.mpr ⟨hn,by simp,fun x hx y hy z=>?_⟩
   have hy:y=k:=by simpa using hy
   exact not_mem_keys_of_get v9 (by rw[←hy,←z];exact hx)
 ·have e0:=atKey_of_get hn hj
  refine wpAny_bind (wpAny_rule (wpAny_bind (wpAny_updateDict ho hd (wpAny_point (hQ _ ?_ (Heap.SameBut.update ..))))))
  rw[storedH_old e0]
  refine⟨_,_,ep,Heap.get?_update_self _ ho (Obj.isFreed_of_dict (Obj.data_mapDict hd _)),hc.mapDict _,Obj.data_mapDict hd _,?_,fun x hx=>?_,by rw[keys_map_putAt];exact hn⟩
  ·have:=modify_map_putAt (entryOfKey knd) (fun e:DictEntry=>{e with val:=v}) k v (fun _ _=>rfl) hn hj
   rw[←he] at this
   obtain⟨l⟩:=es
   simpa using this
  ·obtain⟨y,hy,rfl⟩:=List.mem_map.mp hx
   unfold putAt
   split<;>exact knd.keeps (HH y hy) ho hd (Heap.SameBut.update ..)
def cj(xs ys:List (K×Addr×Value)):List (K×Addr×Value):=ys.foldl (fun acc y=>storedH acc y.1 y.2.1 y.2.2) xs
theorem sC(xs:List (K×Addr×Value))(k:K)(a:Addr)(v:Value):(storedH xs k a v).length≤xs.length+1:=by
 unfold storedH;split<;>simp
theorem j9:∀(ys xs:List (K×Addr×Value)),(cj xs ys).length≤xs.length+ys.length
 |[],xs=>Nat.le_refl _
 |y::ys,xs=>by
  have h1:=j9 ys (storedH xs y.1 y.2.1 y.2.2)
  have h2:=sC xs y.1 y.2.1 y.2.2
  show (cj (storedH xs y.1 y.2.1 y.2.2) ys).length≤_
  rw[List.length_cons];omega
theorem pP{xs ys:List (K×Addr×Value)}{i:Nat}{y:K×Addr×Value}(h:ys[i]? =some y):cj xs (ys.take (i+1))=storedH (cj xs (ys.take i)) y.1 y.2.1 y.2.2:=by
 rw[List.take_add_one,h]
 unfold cj
 rw[List.foldl_append]
 rfl
theorem j_:∀(ys acc:List (K×Addr×Value)),((acc++ys).map (·.1)).Nodup→cj acc ys=acc++ys
 |[],acc,_=>by simp[cj]
 |y::ys,acc,hn=>by
  show cj (storedH acc y.1 y.2.1 y.2.2) ys=_
  have HQ:y.1∉acc.map (·.1):=fun h=>by
   rw[List.map_append] at hn
   exact(List.nodup_append.mp hn).2.2 _ h _ (by simp) rfl
  have e0:atKey acc y.1=none:=atKey_none_of_get fun j p hj=>HQ (List.mem_map.mpr ⟨_,List.mem_of_getElem? hj,rfl⟩)
  rw[storedH_new e0,j_ ys (acc++[(y.1,y.2.1,y.2.2)]) (by simpa using hn)]
  simp
theorem pz{id:String}{o:Addr}{ob:Obj}{es:Array DictEntry}{ep:Nat}{Q:Array DictEntry→Shared→Prop}(ho:s.heap.get? o=some ob)(hd:ob.data= .dict es ep)
 (hq:∀e∈es.toList,∃a,e.key= .ref a∧s.TypeIs (.ref a) "tuple")(hh:∀e∈es.toList,(es.filter (·.hash==e.hash)).size≤1)(h:Q es s):wpAny (model prog w) A (Builtin.Dict.entriesForEmpty id o) Q E s:=by
 unfold Builtin.Dict.entriesForEmpty
 refine wpAny_bind (wpAny_dictEntries ho hd ?_)
 rw[←Array.forIn_toList]
 refine wpAny_bind (wpAny_forIn_list _ (fun rest _ s'=>s'=s∧∀e∈rest,e∈es.toList) _ ?_ ?_ _ _ ⟨rfl,fun _ h=>h⟩)
 ·rintro e rest b s' ⟨rfl,hr⟩
  obtain⟨a,ea,ta⟩:=hq e (hr e (List.mem_cons_self ..))
  have hf:=hh e (hr e (List.mem_cons_self ..))
  have fX:¬((es.filter (·.hash==e.hash)).size>1):=by omega
  rw[ea]
  unfold Builtin.Dict.quietEq
  refine wpAny_bind (wpAny_bind (wpAny_specialOf ta F.slot_tuple_eq.lookup (wpAny_pure ?_)))
  simp only[fX,if_false]
  have:(some (Value.builtin "tuple.__eq__")==some (Value.builtin "object.__eq__"))=false:=by decide
  simp only[this,Bool.not_false,if_true]
  exact wpAny_pure ⟨rfl,fun x hx=>hr x (List.mem_cons_of_mem _ hx)⟩
 ·rintro b s' ⟨rfl,_⟩
  exact wpAny_pure h
theorem lT{nm:String}{d o:Addr}{xs ys:List (K×Addr×Value)}{Q:Unit→Shared→Prop}(hu:knd.room A)(JG:d≠o)(Ll:(o==sysModules)=false)(hd:s.heap.DictOfH knd d xs)(ho:s.heap.DictOfH knd o ys)
 (K8:∀{h:Heap}{k:K}{a:Addr},knd.is h k a→∃ob,h.get? a=some ob∧ob.cls= .type "tuple")(hh:xs=[]→(ys.map fun y=>knd.hash y.1).Nodup)(hsz:xs.length+ys.length≤sizeLine)
 (hQ:∀h',h'.DictOfH knd d (cj xs ys)→Heap.SameBut d s.heap h'→Q () {s with heap:=h'}):wpAny (model prog w) A (Builtin.Dict.mergeDict nm d o) Q E s:=by
 obtain⟨od,Kn,Kl,v_,uV,kL,KP,JJ,GS⟩:=id hd
 obtain⟨oo,tm,Km,Fs,L4,v7,xn,HG,v9⟩:=id ho
 have hlen:=size_of_entries xn
 unfold Builtin.Dict.mergeDict
 rw[if_neg (by simpa using JG)]
 unfold Builtin.Dict.showsAll
 rw[if_neg (by rw[Ll];exact Bool.false_ne_true)]
 refine wpAny_bind (wpAny_pure (wpAny_bind (wpAny_dictEntries Fs v7 ?_)))
 have loop:∀(body:Nat→PUnit→Sem (ForInStep PUnit)),body=(fun i (_:PUnit)=>(do
       let l'←dictEntries o
       match l'[i]? with
        |some e=>do
         holding [e.key,e.val] (dictSetHashed d e.key e.hash e.val)
         let Aj←dictEpoch o
         if (Aj !=Km)=true then do (unsupported (toString nm++toString ":source-changed-during-callback"):Sem PUnit);pure (ForInStep.yield PUnit.unit) else pure (ForInStep.yield PUnit.unit)
        |_=>do
         (unsupported "internal:dict-merge":Sem PUnit)
         pure (ForInStep.yield PUnit.unit):Sem (ForInStep PUnit)))→wpAny (model prog w) A (forIn [:tm.size] PUnit.unit body) (fun _ s'=>Q () s') E s:=by
  rintro _ rfl
  rw[Std.Legacy.Range.forIn_eq_forIn_range']
  simp only[Std.Legacy.Range.size,Nat.sub_zero,Nat.add_sub_cancel,Nat.div_one]
  refine wpAny_forIn_list _ (fun rest _ s'=>∃h' i,s'={s with heap:=h'}∧rest=List.range' i (tm.size - i)∧i≤tm.size∧h'.DictOfH knd d (cj xs (ys.take i))∧h'.get? o=some oo∧Heap.SameBut d s.heap h') _ ?_ ?_ _ _
   ⟨s.heap,0,rfl,by simp,Nat.zero_le _,by simpa[cj] using hd,Fs,Heap.SameBut.refl _ _⟩
  ·rintro x rest b s' ⟨h',i,rfl,hr,hi,sR,C1,Aw⟩
   have fX:i<tm.size:=by
    by_cases h:i<tm.size
    ·exact h
    ·rw[show tm.size - i=0 by omega] at hr;simp at hr
   rw[show tm.size - i=(tm.size - (i+1))+1 by omega,List.range'_succ] at hr
   injection hr with h1 h2
   subst h1
   refine wpAny_bind (wpAny_dictEntries C1 v7 ?_)
   obtain⟨y,hy⟩:∃y,ys[x]? =some y:=⟨_,List.getElem?_eq_getElem (by omega)⟩
   rw[entry_at xn x,hy]
   have Lh:(cj xs (ys.take x)).length≤sizeLine:=by
    have e1:=j9 (ys.take x) xs
    rw[List.length_take] at e1
    omega
   have K9:knd.is h' y.1 y.2.1:=knd.keeps (HG y (List.mem_of_getElem? hy)) v_ kL Aw
   refine wpAny_bind (wpAny_holding (mK hu K9 sR Lh fun Jv Hx Fw=>?_))
   have B7:Jv.get? o=some oo:=(Fw.2 o (Ne.symm JG)).trans C1
   refine wpAny_bind (wpAny_dictEpoch B7 v7 ?_)
   rw[if_neg (by simp)]
   exact wpAny_pure ⟨Jv,x+1,rfl,h2,fX,by rw[pP hy];exact Hx,B7,Aw.trans Fw⟩
  ·rintro b s' ⟨h',i,rfl,hr,hi,sR,C1,Aw⟩
   have tF:i=tm.size:=by
    by_cases h:i<tm.size
    ·rw[show tm.size - i=(tm.size - (i+1))+1 by omega,List.range'_succ] at hr;exact nomatch hr
    ·omega
   refine hQ h' ?_ Aw
   rw[tF,hlen,List.take_length] at sR;exact sR
 have go:wpAny (model prog w) A (do
  let EY←dictEpoch o
  let l←dictEntries o
  forIn [:l.size] PUnit.unit fun i (_:PUnit)=>(do
   let l'←dictEntries o
   match l'[i]? with
    |some e=>do
     holding [e.key,e.val] (dictSetHashed d e.key e.hash e.val)
     let Aj←dictEpoch o
     if (Aj !=EY)=true then do (unsupported (toString nm++toString ":source-changed-during-callback"):Sem PUnit);pure (ForInStep.yield PUnit.unit) else pure (ForInStep.yield PUnit.unit)
    |_=>do
     (unsupported "internal:dict-merge":Sem PUnit)
     pure (ForInStep.yield PUnit.unit):Sem (ForInStep PUnit))
  pure ()) Q E s:=by
  refine wpAny_bind (wpAny_dictEpoch Fs v7 (wpAny_bind (wpAny_dictEntries Fs v7 (wpAny_bind ?_))))
  exact wpAny_mono (loop _ rfl) (fun _ _ h=>wpAny_pure h) fun _ _ h=>h
 dsimp only
 split
 ·refine wpAny_bind (wpAny_dictEntries v_ kL ?_)
  split
  ·rename_i Hy
   have C4:xs=[]:=by
    have h0:Kn= #[]:=Array.isEmpty_iff.mp Hy
    have:=size_of_entries KP
    rw[h0] at this
    exact List.length_eq_zero_iff.mp (by simpa using this.symm)
   subst C4
   have Lj:=hh rfl
   refine wpAny_bind (pz Fs v7 (fun e he=>?_) (fun e he=>?_) ?_)
   ·rw[xn] at he
    obtain⟨y,hy,rfl⟩:=List.mem_map.mp he
    obtain⟨ob,h1,h2⟩:=K8 (HG y hy)
    exact⟨y.2.1,rfl,ob,h1,h2⟩
   ·have:(tm.filter (·.hash==e.hash)).size=((ys.map fun y=>knd.hash y.1).filter (· ==e.hash)).length:=by
     rw[←Array.length_toList,Array.toList_filter,xn,List.filter_map,List.filter_map,List.length_map,List.length_map]
     rfl
    rw[this]
    have hc:=List.nodup_iff_count.mp Lj e.hash
    rw[List.count_eq_countP,List.countP_eq_length_filter] at hc
    exact hc
   ·have hm:cj ([]:List (K×Addr×Value)) ys=ys:=by
     rw[j_ ys [] (by simpa using v9)];rfl
    rw[hm] at hQ
    split
    ·have Lz:tm.size≤sizeLine+1:=by simp at hsz;omega
     refine wpAny_bind (wpAny_updateDictKeysTo v_ kL (wpAny_pure (hQ _ ⟨_,_,Kl+1,Heap.get?_update_self _ v_ (Obj.isFreed_of_dict (Obj.data_mapDictKeys kL _)),uV.mapDictKeys _,Obj.data_mapDictKeys kL _,xn,fun x hx=>?_,v9⟩ (Heap.SameBut.update ..))) Lz)
     exact knd.keeps (HG x hx) v_ kL (Heap.SameBut.update ..)
    ·rename_i dB
     have h0:tm= #[]:=Array.isEmpty_iff.mp (by simpa using dB)
     have Lc:ys=[]:=List.length_eq_zero_iff.mp (by rw[←hlen,h0];rfl)
     subst Lc
     exact wpAny_pure (hQ _ hd (Heap.SameBut.refl _ _))
  ·exact go
 ·exact go
end
end L3
namespace L3
open PySem PySem.Spec L2
open PyProof.Rows hiding St
theorem BI{P:Program}{w:World}{h:Heap}{k:List Key}{a:Addr}(h1:(tupleKind (bb P w)).is h k a):∃ob,h.get? a=some ob∧ob.cls= .type "tuple":=by
 obtain⟨ob,aA,n,q1,q2,_⟩:=h1
 exact⟨ob,q1,q2⟩
def gj(aw more:List (List Key×V)):List (List Key×V):=more.foldl (fun acc kv=>putK acc kv.1 kv.2) aw
theorem u7{H:Hp}:∀{more:List (List Key×V)}{ys:List (List Key×Addr×Value)},KT H more ys→∀{aw:List (List Key×V)}{xs:List (List Key×Addr×Value)},KT H aw xs→KT H (gj aw more) (cj xs ys)
 |_,_, .nil,_,_,q=>q
 |_,_, .cons h t,aw,xs,r=>by
  refine u7 t ?_
  have:=KT.put r _ h.2.1 h.2.2
  rw[h.1] at this
  show KT H (putK aw _ _) (storedH xs _ _ _)
  rw[h.1]
  exact this
theorem lM:∀(more aw:List (List Key×V)),(gj aw more).length≤aw.length+more.length
 |[],aw=>Nat.le_refl _
 |p::r,aw=>by
  have h1:=lM r (putK aw p.1 p.2)
  have h2:=dH aw p.1 p.2
  show (gj (putK aw p.1 p.2) r).length≤_
  rw[List.length_cons];omega
def eL(k:List Int):Int:=reduceHash (Builtin.Tuple.tupleHashOf (k.map hashInt))
theorem yf{P:Program}{w:World}(k:List Int):(tupleKind (bb P w)).hash (lJ k)=eL k:=by
 show reduceHash (Builtin.Tuple.tupleHashOf ((lJ k).map (FJ w)))=_
 unfold eL lJ
 rw[List.map_map]
 rfl
section
variable{X:Cx}{pins:List (Addr×Obj)}{σ:St}{H:Hp}{s:Shared}{a b:Addr}{A:Around}{E:Value→Shared→Prop}
theorem xK{aw more:List (List Key×V)}{ks:List (List Int)}{Q:Value→Shared→Prop}(hu:A.units+2<cLine)(I:Inv X pins σ H s)(ha:H a=some (.dT aw))(hb:Rd H b (.dT more))(Ht:a≠b)(hk:more.map (·.1)=ks.map lJ)
 (hh:aw=[]→(ks.map eL).Nodup)(hz:aw.length+more.length≤sizeLine)(h:∀s',Inv X pins σ (upd H a (.dT (gj aw more))) s'→Q .none s'):
 wpAny (model X.prog X.w) A (call (.builtin "dict.update") [.ref a, .ref b]) Q E s:=by
 obtain⟨z1,lo1,xs,Gk,Jo⟩:=xQ I.hok ha
 obtain⟨z2,LM,ys,Bu,Ah⟩:=lr I.hok hb
 have l1:=Paired.length Gk
 have l2:=Paired.length Bu
 have hT:=Jo.typeIs
 refine wpAny_call_entry PySem.F.slot_dict_update hT PySem.F.entry_dict_update ?_ (PySem.F.args_dict_update_2 _ _)
 unfold Builtin.«dict.update»
 refine wpAny_bind ?_
 unfold Builtin.Dict.selfAndRest
 refine wpAny_bind (wpAny_notOrdered_dict hT ?_)
 show wpAny _ _ (pure (a,[Value.ref b])) _ _ s
 refine wpAny_pure ?_
 show wpAny _ _ (Builtin.Dict.updateFrom "dict.update" a (.ref b) [] .none) _ _ s
 unfold Builtin.Dict.updateFrom
 refine wpAny_bind (wpAny_typeOf Ah.typeIs ?_)
 rw[if_neg (by decide)]
 refine wpAny_bind ?_
 unfold Builtin.Dict.merge
 refine wpAny_bind ?_
 unfold Builtin.Dict.readDirectly
 refine wpAny_bind (wpAny_isInstance Ah.typeIs isSubtype_dict_dict ?_)
 simp only[Bool.not_true,Bool.false_eq_true,if_false]
 refine wpAny_bind (wpAny_specialOf Ah.typeIs PySem.F.slot_dict_iter.lookup (wpAny_pure ?_))
 simp only[beq_self_eq_true,if_true]
 refine wpAny_bind (wpAny_pure ?_)
 refine lT (knd:=tupleKind (bb X.prog X.w)) (show A.in1.units<cLine by show A.units+1<cLine;omega) Ht LM Jo Ah BI (fun e0=>?_) (by omega) fun h' xM Aw=>?_
 ·have e1:aw=[]:=List.length_eq_zero_iff.mp (by rw[l1,e0];rfl)
  have:=hh e1
  have e2:(ys.map fun y=>(tupleKind (bb X.prog X.w)).hash y.1)=ks.map eL:=by
   have e3:more.map (·.1)=ys.map (·.1):=kC (fun _ _ r=>r.1) Bu
   rw[show (fun y:List Key×Addr×Value=>(tupleKind (bb X.prog X.w)).hash y.1)=(tupleKind (bb X.prog X.w)).hash∘(·.1) from rfl,←List.map_map,←e3,hk,List.map_map]
   exact List.map_congr_left fun k _=>yf k
  rw[e2];exact this
 ·show wpAny _ _ (Builtin.Dict.addKeywords a []>>=_) _ _ _
  refine wpAny_bind (wpAny_pure (wpAny_pure ⟨.none,rfl,h _ ?_⟩))
  obtain⟨q,es,ep,hq,h2,h3,h4,_,h5⟩:=xM
  have hl:(gj aw more).length≤sizeLine:=by have:=lM more aw;omega
  refine iL I (t':=s.toks) (by rw[ha];exact True.intro) Aw ⟨q,hq⟩ ⟨hl,lo1,_,(u7 Bu Gk).keeps fun c ys ec=>?_,q,es,ep,hq,h2,h3,h4,h5⟩
  rw[av (yE ec ha (fun z=>nomatch z))]
  exact ec
end
def bR(ks:List (List Key))(ds:List D):List (List Key)→List D→List (List Key)×List D
 |k::ks',d::ds'=>bR (cI ks ds k) (b5 ks ds k d) ks' ds'
 |_,_=>(ks,ds)
def zX(ks:List (List Key))(ds:List D):D→Option C
 | .dct ks' ds'=>match eo ks' with
   |some ns=>if ds.length+ds'.length≤lim∧(ks.isEmpty=true→(ns.map eL).Nodup) then some (.dct (bR ks ds ks' ds').1 (bR ks ds ks' ds').2) else none
   |none=>none
 |_=>none
theorem lR{K:W.Frag}{F:Hp}:∀{ks':List (List Key)}{ds':List D}{vs':List V}{ks:List (List Key)}{ds:List D}{vs:List V},DenL K F ds' vs'→ks'.length=ds'.length→DenL K F ds vs→ks.length=ds.length→
 ∃ws,gj (ks.zip vs) (ks'.zip vs')=(bR ks ds ks' ds').1.zip ws∧DenL K F (bR ks ds ks' ds').2 ws∧(bR ks ds ks' ds').1.length=(bR ks ds ks' ds').2.length
 |[],[],vs',ks,ds,vs,h',_,h,hl=>⟨vs,rfl,h,hl⟩
 |k::ks',d::ds',vs',ks,ds,vs,⟨v,r,e,h1,h2⟩,B6,h,hl=>by
  subst e
  obtain⟨ws,e1,e2,e3⟩:=qc (K:=K) (F:=F) h1 k h hl
  obtain⟨us,q1,q2,q3⟩:=lR (ks':=ks') (ds':=ds') (vs':=r) h2 (by simpa using B6) e2 e3
  refine⟨us,?_,q2,q3⟩
  show gj (putK (ks.zip vs) k v) (ks'.zip r)=_
  rw[e1]
  exact q1
 |[],_::_,_,_,_,_,_,B6,_,_=>by simp at B6
 |_::_,[],_,_,_,_,_,B6,_,_=>by simp at B6
theorem zq{κ:Type}[DecidableEq κ]{ks:List κ}{ds:List D}{k:κ}{d:D}(hl:ks.length=ds.length):(b5 ks ds k d).length≤ds.length+1:=by
 unfold b5
 split
 ·rw[gu ks ds k d hl];omega
 ·simp
theorem zr{κ:Type}[DecidableEq κ]{ks:List κ}{ds:List D}{k:κ}{d:D}(hl:ks.length=ds.length):(cI ks ds k).length=(b5 ks ds k d).length:=by
 unfold b5 cI
 split
 ·rw[gu ks ds k d hl];exact hl
 ·simp[hl]
theorem lS:∀{ks':List (List Key)}{ds':List D}{ks:List (List Key)}{ds:List D},ks.length=ds.length→(bR ks ds ks' ds').2.length≤ds.length+ds'.length
 |[],ds',ks,ds,_=>by show ds.length≤_;omega
 |_::_,[],ks,ds,_=>by show ds.length≤_;simp
 |k::ks',d::ds',ks,ds,hl=>by
  have h1:=lS (ks':=ks') (ds':=ds') (ks:=cI ks ds k) (ds:=b5 ks ds k d) (zr hl)
  have h2:=zq (k:=k) (d:=d) hl
  show (bR (cI ks ds k) (b5 ks ds k d) ks' ds').2.length≤_
  rw[List.length_cons];omega
section
variable{X:Cx}{Xw:Nat→Hp→Prop}{o e f:Expr}{δ δo δe δf:DE}{pos p apos bf:Pos}{x:Str}{i:Nat}
def wZ(i:Nat)(δ:DE):DS:=fun ρ=>match ua ρ i with
 |some (.dct ks ds)=>δ ρ>>=fun d=>match zX ks ds d with
  |some c'=>M.ret (.nx (ρ.set i (some (.ow c'))))
  |none=>M.stuck
 |_=>M.stuck
theorem DZ{td ty:TE}(hu:X.A.units+2<cLine)(ho:PE X o td)(he:PE X e ty)(m:M1 X o "update" apos e bf):
 PE X (.Call (.Attribute o "update" apos) [e] [] bf) (fun σ H Q=>td σ H fun x H1=>∃a,x= .ref a∧Jf H1 a∧ty σ H1 fun y H2=>∃(b:Addr) (aw more:List (List Key×V)) (ks:List (List Int)),y= .ref b∧H2 a=some (.dT aw)∧Rd H2 b (.dT more)∧a≠b∧more.map (·.1)=ks.map lJ∧(aw=[]→(ks.map eL).Nodup)∧aw.length+more.length≤sizeLine∧Q .non (upd H2 a (.dT (gj aw more)))):=by
 intro pins s σ H Q I h
 refine wpAny_Call_method m.base m.few m.line PySem.F.plainAttrs_dict PySem.F.slot_dict_update (by rfl) (bY (ho pins s σ H _ I h) fun u s1 ⟨x,H1,I1,rx,a,ex,d,q1⟩=>?_)
 subst ex
 obtain rfl:u=Value.ref a:=rx
 obtain⟨t1,t2,_⟩:=C9 I1 d
 refine⟨t1,t2,?_⟩
 rw[m.trees]
 refine Calls.callWith_builtin rfl (Calls.evalArgs_plain (Calls.spliced_cons (bY (he pins s1 σ H1 _ I1 q1) fun iv s2 ⟨y,H2,I2,ry,b,aw,more,ks,ey,k1,k2,k3,k4,k5,k6,q2⟩=>Calls.spliced_nil ?_)))
 subst ey
 obtain rfl:iv=Value.ref b:=ry
 exact xK hu I2 k1 k2 k3 k4 k5 k6 fun s3 I3=>⟨.non,_,I3,rfl,q2⟩
theorem Bo(hu:X.A.units+64<cLine)(hv:PE X (.Name x p) (mN i))(he:PD X Xw e δ)(m:M1 X (.Name x p) "update" apos e bf)(hs:swapsWith (.Call (.Attribute (.Name x p) "update" apos) [e] [] bf) none pos.line X.env=pure false:=by rfl):
 iI X Xw (.Expr (.Call (.Attribute (.Name x p) "update" apos) [e] [] bf) pos) (wZ i δ):=fun F₀ H₀=>PS.weak (kX (DZ (by omega) hv he m) hs) fun D σ H ⟨F,ρ,s,w⟩=>by
 unfold wZ at w
 split at w
 ·rename_i ks ds GU
  have hi:=oG GU
  obtain⟨v,Ib,a,oh,rfl,hH,hF,vs,rfl,hd,hl,hz⟩:=s.st.den i _ hi
  refine⟨.ref a,Ib,a,rfl, .inr ⟨_, .inl hH⟩,F,ρ,s.st,?_⟩
  rcases(δ ρ).cs with q | ⟨n,q⟩ | ⟨d,q⟩
  ·rw[q] at w;exact w.elim
  ·rw[q] at w⊢;exact fun F' H' e'=>w F' H' (s.ext.trans e')
  ·rw[q] at w⊢
   intro u H1 F1 e1 hq
   have w:WPS X.K Xw F₀ H₀ (match zX ks ds d with | some c'=>M.ret (.nx (ρ.set i (some (.ow c')))) | none=>M.stuck) D:=w
   cases d with
   |dct ks' ds'=>
    obtain⟨b,ob,vs',rfl,k2,k3,k4,k5⟩:=hq
    cases hc:zX ks ds (.dct ks' ds') with
    |none=>rw[hc] at w;exact w.elim
    |some c'=>
     rw[hc] at w
     have hc:(match eo ks' with | some ns=>if ds.length+ds'.length≤lim∧(ks.isEmpty=true→(ns.map eL).Nodup) then some (C.dct (bR ks ds ks' ds').1 (bR ks ds ks' ds').2) else none | none=>none)=some c':=hc
     cases hn:eo ks' with
     |none=>rw[hn] at hc;cases hc
     |some ns=>
      rw[hn] at hc
      have hc:(if ds.length+ds'.length≤lim∧(ks.isEmpty=true→(ns.map eL).Nodup) then some (C.dct (bR ks ds ks' ds').1 (bR ks ds ks' ds').2) else none)=some c':=hc
      split at hc
      ·rename_i Fd
       cases hc
       have JE:=DenL.mono e1.ff hd
       have l1:=JE.len
       have l2:=k3.len
       have Ht:a≠b:=fun z=>by
        have:=e1.old hH (fun _ z=>nomatch z)
        rw[hF,z,k2] at this
        cases this
       obtain⟨ws,m1,m2,m3⟩:=lR k3 k4 JE hl
       refine⟨b,ks.zip vs,ks'.zip vs',ns,rfl,e1.hh _ _ hH, .inr ⟨ob,e1.fh _ _ k2⟩,Ht,by rw[g6 (by rw[k4];exact l2),jw hn],fun z=>Fd.2 ?_,?_,?_⟩
       ·have:=g6 (a:=ks) (b:=vs) (by rw[hl];exact l1)
        rw[z] at this
        rw[←this];rfl
       ·rw[List.length_zip,List.length_zip]
        have:=cf
        omega
       ·rw[m1]
        exact w σ F1 _ ((s.ext' e1).chg (c₀:= .dct (bR ks ds ks' ds').1 (bR ks ds ks' ds').2) hi Ib ⟨ws,rfl,m2,m3,by have:=lS (ks':=ks') (ds':=ds') hl;omega⟩)
      ·cases hc
   |_=>exact w.elim
 ·exact w.elim
end
section
variable{X:Cx}{Xw:Nat→Hp→Prop}{o e f:Expr}{δ δo δe δf:DE}{δs:DA}{pos p apos bf:Pos}{x:Str}{i:Nat}
end
section
variable{X:Cx}{Xw:Nat→Hp→Prop}{a b e Ko:Expr}{δ δa δb δs:DE}{pos p2:Pos}
end
section
variable{prog:Program}{w:World}{A:Around}{E:Value→Shared→Prop}{s:Shared}
end
def tB:List Nat→BO
 |[]=>E6
 |i::is=>BY (yc i) (tB is)
def ur:List Nat→List D→a5→a5
 |i::is,d::ds,ρ=>ur is ds (ρ.set i (some (.fz d)))
 |_,_,ρ=>ρ
def mC(is:List Nat):D→a5→Option a5
 | .tup ds,ρ=>if ds.length=is.length then some (ur is ds ρ) else none
 |_,_=>none
theorem oW{K:W.Frag}{F₀ H₀ F H:Hp}{Q:St→Hp→Prop}:∀(is:List Nat) (ds:List D) (vs:List V) (σ:St) (ρ:a5),ds.length=is.length→StOk K F₀ H₀ F H σ ρ→DenL K F ds vs→(∀σ',StOk K F₀ H₀ F H σ' (ur is ds ρ)→Q σ' H)→tB is vs σ H Q
 |[],[],vs,σ,ρ,_,s,h,k=>⟨h,k σ s⟩
 |i::is,d::ds,vs,σ,ρ,hl,s,⟨v,r,e,h1,h2⟩,k=>by
  subst e
  exact⟨v,r,rfl,oW is ds r _ _ (by simpa using hl) (s.set h1) h2 k⟩
 |[],_::_,_,_,_,hl,_,_,_=>by simp at hl
 |_::_,[],_,_,_,hl,_,_,_=>by simp at hl
theorem vx{K:W.Frag}{is:List Nat}:xr K (E7 K is.length (tB is)) (mC is):=fun F₀ H₀ F H σ ρ ρ' d v Q s q e k=>by
 unfold mC at e
 split at e
 ·rename_i ds
  split at e
  ·rename_i hl
   cases e
   obtain⟨a,vs,rfl,hs,hd,_⟩:=q
   exact⟨a,vs,rfl,SqT.of (s.st.fh _ _ hs),by rw[←hd.len];exact hl,oW is ds vs σ ρ hl s hd k⟩
  ·cases e
 ·cases e
section
variable{prog:Program}{w:World}{A:Around}{E:Value→Shared→Prop}{s:Shared}
end
section
variable{prog:Program}{w:World}{A:Around}{E:Value→Shared→Prop}{s:Shared}
end
section
variable{X:Cx}{Xw:Nat→Hp→Prop}{a b e e2:Expr}{δa δb:DE}{δs:DA}{p pos:Pos}
end
mutual
def BR:D→Bool
 | .non=>true
 | .bl _=>true
 | .int _=>true
 | .str _=>true
 | .tup ds=>qS ds
 | .lst ds=>qS ds
 | .raw _=>false
 | .exc _=>false
 | .scr _=>false
 | .dct _ _=>false
 | .dci _ _=>false
def qS:List D→Bool
 |[]=>true
 |d::ds=>BR d&&qS ds
end
def rV(ρ:a5):Bool:=ρ.all fun x=>match x with
 |some (.ow (.lst _))=>false
 |_=>true
theorem yS{ρ:a5}{i:Nat}{ds:List D}(h:rV ρ=true)(e:ρ[i]? =some (some (.ow (.lst ds)))):False:=by
 have:=List.all_eq_true.mp h _ (List.mem_of_getElem? e)
 cases this
section
variable{K:W.Frag}{F H F' H':Hp}{σ:St}{ρ:a5}{h:Heap}{b:Addr}
theorem OwnAt.dict(S:StE K F H σ ρ)(hd:rV ρ=true)(p:OwnAt σ ρ b):∃o,H b=some o∧((∃x,o= .dT x)∨∃x,o= .dK x):=by
 obtain⟨i,c,h1,h2⟩:=p
 obtain⟨v,h3,a,o,rfl,h4,h5,h6⟩:=S.den i _ h1
 rw[h3] at h2
 cases h2
 refine⟨o,h4,?_⟩
 cases c with
 |lst ds=>exact(yS hd h1).elim
 |dct ks ds=>obtain⟨vs,rfl,_⟩:=h6;exact .inl ⟨_,rfl⟩
 |dci ks ds=>obtain⟨vs,rfl,_⟩:=h6;exact .inr ⟨_,rfl⟩
open Classical in
theorem vb(S:StE K F H σ ρ)(hd:rV ρ=true)(E:Ext (fA σ ρ (refA h (OwnAt σ ρ) H) F) (refA h (OwnAt σ ρ) H) F' H'){a:Addr}{o:HO}(e:F' a=some o)(dB:∀q u,o≠ .frz q u):(if OwnAt σ ρ a then none else F' a)=some o:=by
 rw[if_neg,e]
 intro hp
 obtain⟨o',k1,k2⟩:=OwnAt.dict S hd hp
 have k3:fA σ ρ (refA h (OwnAt σ ρ) H) F a=some (kJ ((h.get? a).getD {cls:= .none,data:= .fields #[]}) o'):=by
  unfold fA refA
  rw[if_pos hp,if_pos hp,k1]
  rfl
 have k4:=E.ff a _ k3
 rw[e] at k4
 rcases k2 with⟨x,rfl⟩ | ⟨x,rfl⟩<;>cases k4<;>exact dB _ _ rfl
open Classical in
mutual
theorem xN(S:StE K F H σ ρ)(hd:rV ρ=true)(E:Ext (fA σ ρ (refA h (OwnAt σ ρ) H) F) (refA h (OwnAt σ ρ) H) F' H'):∀{d:D}{v:V},BR d=true→Den K F' d v→Den K (fun b=>if OwnAt σ ρ b then none else F' b) d v
 | .non,_,_,q=>q
 | .bl _,_,_,q=>q
 | .int _,_,_,q=>q
 | .str _,_,_,q=>q
 | .tup ds,_,f,⟨a,vs,h1,h2,h3,h4⟩=>⟨a,vs,h1,vb S hd E h2 (fun _ _ z=>nomatch z),ju S hd E f h3,h4⟩
 | .lst ds,_,f,⟨a,vs,h1,h2,h3,h4⟩=>⟨a,vs,h1,vb S hd E h2 (fun _ _ z=>nomatch z),ju S hd E f h3,h4⟩
 | .raw _,_,f,_=>by cases f
 | .exc _,_,f,_=>by cases f
 | .scr _,_,f,_=>by cases f
 | .dct _ _,_,f,_=>by cases f
 | .dci _ _,_,f,_=>by cases f
theorem ju(S:StE K F H σ ρ)(hd:rV ρ=true)(E:Ext (fA σ ρ (refA h (OwnAt σ ρ) H) F) (refA h (OwnAt σ ρ) H) F' H'):∀{ds:List D}{vs:List V},qS ds=true→DenL K F' ds vs→DenL K (fun b=>if OwnAt σ ρ b then none else F' b) ds vs
 |[],_,_,q=>q
 |d::ds,_,f,⟨v,r,h1,h2,h3⟩=>by
  unfold qS at f
  rw[Bool.and_eq_true] at f
  exact⟨v,r,h1,xN S hd E f.1 h2,ju S hd E f.2 h3⟩
end
end
section
variable{X:Cx}{Xw:Nat→Hp→Prop}{e:Expr}{δ:DE}
end
def Cm(τ:DT):DT:=fun ρ=>noex (τ (BX ρ))
def Bx(is:List Nat)(τ:DS):DS:=fun ρ=>τ (fgt is ρ)
section
variable{X:Cx}{Xw:Nat→Hp→Prop}{st:Stmt}{τ:DS}{is:List Nat}
theorem vw(h:iI X Xw st τ):iI X Xw st (Bx is τ):=fun F₀ H₀=>PS.weak (h F₀ H₀) fun D σ H ⟨F,ρ,s,w⟩=>⟨F,_,s.fgt is,w⟩
end
section
variable{X:Cx}{Xw:Nat→Hp→Prop}{a b e o:Expr}{δ δa δb δo:DE}{δl:DA}{pos apos bf:Pos}
def Hj(x y:Str):Bool:=decide (0+y.length≤x.length)&&Builtin.Str.subAt x y (x.length - y.length)
def Ew:D→List D→M D
 | .str x,[.str y]=>M.ret (.bl (Hj x y))
 |_,_=>M.stuck
def bX(x:Str)(n:Nat):Str:=⟨(List.replicate n x.cps).foldl (· ++ ·) #[]⟩
def lz:D→D→M D
 | .str x, .int k=>if (0≤k∧k≤64)∧x.length*k.toNat≤lim then M.ret (.str (bX x k.toNat)) else M.stuck
 |_,_=>M.stuck
theorem se(x:Str):∀(n:Nat) (a:Array Nat),((List.replicate n x.cps).foldl (· ++ ·) a).toList=a.toList++(List.replicate n x.cps.toList).flatten
 |0,a=>by simp
 |n+1,a=>by
  rw[List.replicate_succ,List.foldl_cons,se x n,List.replicate_succ,List.flatten_cons,Array.toList_append,List.append_assoc]
theorem dP(x:Str)(n:Nat):(bX x n).cps.toList=(List.replicate n x.cps.toList).flatten:=by
 show ((List.replicate n x.cps).foldl (· ++ ·) #[]).toList=_
 rw[se]
 rfl
theorem vF{x y:Str}(h:x.cps.toList=y.cps.toList):x=y:=by
 obtain⟨⟨a⟩⟩:=x
 obtain⟨⟨b⟩⟩:=y
 cases (show a=b from h)
 rfl
theorem sf(x:Str)(n:Nat):(bX x n).length=x.length*n:=by
 show (bX x n).cps.toList.length=x.cps.toList.length*n
 rw[dP]
 induction n with
 |zero=>simp
 |succ n ih=>rw[List.replicate_succ,List.flatten_cons,List.length_append,ih,Nat.mul_succ];omega
theorem zx(x:Str):bX x 1=x:=vF (by rw[dP];simp)
theorem zw{x:Str}(h:x.length=0)(n:Nat):bX x n=x:=by
 have e:=vG h
 subst e
 refine vF ?_
 rw[dP]
 induction n with
 |zero=>rfl
 |succ n ih=>rw[List.replicate_succ,List.flatten_cons,ih];rfl
theorem AX:OpR X (binaryOp .Mult) (fun x y H Q=>∃(z:Str) (k:Int),x= .str z∧y= .int k∧(0≤k∧k≤64)∧z.length*k.toNat≤lim∧Q (.str (bX z k.toNat)) H):=by
 intro pins s σ H x y v u Q I rx ry h
 obtain⟨z,k,rfl,rfl,hk,hl,q⟩:=h
 obtain⟨t,rfl⟩:=rx
 obtain⟨t2,rfl⟩:=ry
 have L8:=cf
 refine PySem.P.mul_str (by simp;omega) (fun _ _=>?_) (fun _ _=>?_) ?_
 ·have h1:(2 ^ 63 - 1:Int) / 64≤(2 ^ 63 - 1) / k∨k=0:=by
   by_cases h0:k=0
   ·exact .inr h0
   ·exact .inl (Int.le_ediv_of_mul_le (by omega) (by have:(2 ^ 63 - 1:Int) / 64*k≤(2 ^ 63 - 1) / 64*64:=Int.mul_le_mul_of_nonneg_left hk.2 (by decide);exact Int.le_trans this (by decide)))
  rename_i Ma Fp
  have K4:1≤k.toNat:=by omega
  have:z.length≤z.length*k.toNat:=Nat.le_mul_of_pos_right _ K4
  have:(z.length:Int)≤lim:=by exact_mod_cast (by omega:z.length≤lim)
  rcases h1 with h1 | h1
  ·have h2:((lim:Nat):Int)≤(2 ^ 63 - 1:Int) / 64:=by decide
   omega
  ·omega
 ·unfold Builtin.Str.tooLong
  simp
  omega
 ·by_cases h1:k<1
  ·rw[if_pos h1]
   have h0:k=0:=by omega
   subst h0
   exact⟨by show 0≤_;exact Nat.zero_le _,⟨.str _,H,I.tok _,⟨_,rfl⟩,q⟩⟩
  ·rw[if_neg h1]
   by_cases h2:(k==1||z.length==0)=true
   ·rw[if_pos h2]
    have e:bX z k.toNat=z:=by
     rcases Bool.or_eq_true_iff.mp h2 with h3 | h3
     ·have:k=1:=by simpa using h3
      subst this
      exact zx z
     ·exact zw (by simpa using h3) _
    rw[e] at q
    exact⟨.str z,H,I,⟨t,rfl⟩,q⟩
   ·rw[if_neg h2]
    exact⟨by have:=sf z k.toNat;show (bX z k.toNat).length≤sizeLine;omega,⟨.str _,H,I.tok _,⟨_,rfl⟩,q⟩⟩
theorem vp(ha:PD X Xw a δa)(hb:PD X Xw b δb):PD X Xw (.BinOp a .Mult b pos) (d2 lz δa δb):=h7 AX (fun Xw F H x y dx dy Q s hx hy w=>by
 unfold lz at w
 split at w
 ·rename_i z k
  split at w
  ·rename_i hc
   exact⟨z,k,hx.1,hy,hc.1,hc.2,WP.now w s ⟨rfl,by rw[sf];exact hc.2⟩⟩
  ·exact w.elim
 ·exact w.elim) ha hb
end
section
variable{X:Cx}{Xw:Nat→Hp→Prop}{e:Expr}{δs:DA}{pos p:Pos}
end
section
variable{X:Cx}{Xw:Nat→Hp→Prop}{a b e o k v k' v':Expr}{δ δa δb δo δk δv δk' δv':DE}{δl δs:DA}{pos apos bf p:Pos}
def yr:List D→M D
 |[.bl b]=>M.ret (.int (if b then 1 else 0))
 |_=>M.stuck
theorem nI:CallR X (.type "int") (fun xs H Q=>∃b:Bool,xs=[.bl b]∧Q (.int (if b then 1 else 0)) H):=by
 intro pins s σ H xs us Q I r h
 obtain⟨b,rfl,q⟩:=h
 obtain⟨u,rfl,r1⟩:=r.one
 cases (show u=_ from r1)
 exact call_int_bool ⟨.int _,H,I.tok _,⟨_,rfl⟩,q⟩
theorem A6(hg:Gl X "int")(hm:X.mg "int"=none)(hb:bootBuiltins "int"=some (.type "int"))(ha:k7 X Xw [e] δs)(he:starEach [e] X.env=[(false,eval e X.env)]:=by rfl):PD X Xw (.Call (.Name "int" p) [e] [] pos) (dA yr δs):=
 wN nI (fun Xw F H vs ds Q s h w=>by
  unfold yr at w
  split at w
  ·obtain⟨v,rfl,h1⟩:=h.one
   exact⟨_,by rw[show v=_ from h1],WP.now w s rfl⟩
  ·exact w.elim) hg hm hb ha (by decide) (by decide) he rfl
end
section
variable{X:Cx}{Xw:Nat→Hp→Prop}{a b e:Expr}{δ δa δb:DE}{δs:DA}{pos p:Pos}
theorem mQ:∀{xs:List V}{us:List Value},xs.length=us.length→(∀(i:Nat) x u,xs[i]? =some x→us[i]? =some u→RelV x u)→Vals xs us
 |[],[],_,_=> .nil
 |x::xs,u::us,hl,h=> .cons (h 0 x u rfl rfl) (mQ (by simpa using hl) fun i y v e1 e2=>h (i+1) y v (by simpa using e1) (by simpa using e2))
end
end L3
namespace L3
open PySem PySem.SetTable
def iK(m b:Nat):Nat→Nat×Nat
 |0=>(b % (m+1),b)
 |k+1=>leap m (iK m b k).1 (iK m b k).2
def ED(m i:Nat):Nat:=(i*5+1) % (m+1)
def it(m:Nat):Nat→Nat→Nat
 |0,x=>x
 |n+1,x=>ED m (it m n x)
theorem lH(m:Nat):∀a b x,it m (a+b) x=it m a (it m b x)
 |0,b,x=>by rw[Nat.zero_add];rfl
 |a+1,b,x=>by rw[Nat.add_right_comm];show ED m _=ED m _;rw[lH m a b x]
theorem FA(m b:Nat):∀k,(iK m b k).2=b / 32 ^ k
 |0=>by simp[iK]
 |k+1=>by
  show (iK m b k).2 / 32=_
  rw[FA m b k,Nat.div_div_eq_div_mul,Nat.pow_succ]
theorem uY{m b:Nat}(hb:b<2 ^ 64):∀k,(iK m b (k+13)).1=it m k (iK m b 13).1
 |0=>by rw[Nat.zero_add];rfl
 |k+1=>by
  rw[Nat.add_right_comm]
  have hq:(iK m b (k+13)).2 / 32=0:=by
   rw[FA]
   refine Nat.div_eq_of_lt ?_
   refine Nat.lt_of_le_of_lt (m:=b / 32 ^ 13) ?_ ?_
   ·rw[Nat.pow_add,Nat.mul_comm,←Nat.div_div_eq_div_mul]
    exact Nat.div_le_self ..
   ·have:b / 32 ^ 13<1:=Nat.div_lt_of_lt_mul (by omega)
    omega
  show ((iK m b (k+13)).1*5+1+(iK m b (k+13)).2 / 32) % (m+1)=ED m _
  rw[hq,uY hb k]
  rfl
def GD(m:Nat):Prop:=m=7∨m=31∨m=127
def ID(m:Nat):Nat→Nat→List Nat
 |0,_=>[]
 |n+1,x=>x::ID m n (ED m x)
theorem t_(m:Nat):∀(n x j:Nat),j∈ID m n x→∃a,a<n∧it m a x=j
 |0,x,j,h=>by cases h
 |n+1,x,j,h=>by
  rcases List.mem_cons.mp h with rfl | h
  ·exact⟨0,by omega,rfl⟩
  ·obtain⟨a,ha,e⟩:=t_ m n (ED m x) j h
   exact⟨a+1,by omega,by rw[lH m a 1 x];exact e⟩
theorem A4{m:Nat}(hm:GD m):(∀j,j<m+1→j∈ID m (m+1) 0)∧it m (m+1) 0=0:=by
 rcases hm with rfl | rfl | rfl
 ·exact⟨by decide+kernel,by decide+kernel⟩
 ·exact⟨by decide+kernel,by decide+kernel⟩
 ·exact⟨by decide+kernel,by decide+kernel⟩
theorem Ki{m:Nat}(hm:GD m){i j:Nat}(hi:i<m+1)(hj:j<m+1):∃n,n≤m∧it m n i=j:=by
 obtain⟨h1,h2⟩:=A4 hm
 obtain⟨a,ha,rfl⟩:=t_ m _ 0 i (h1 i hi)
 obtain⟨b,hb,rfl⟩:=t_ m _ 0 j (h1 j hj)
 by_cases h:a≤b
 ·exact⟨b - a,by omega,by rw[←lH,Nat.sub_add_cancel h]⟩
 ·refine⟨m+1 - a+b,by omega,?_⟩
  rw[←lH,show m+1 - a+b+a=b+(m+1) by omega,lH,h2]
theorem Fz(m b k:Nat):(iK m b k).1<m+1:=by
 cases k with
 |zero=>exact Nat.mod_lt _ (by omega)
 |succ k=>exact Nat.mod_lt _ (by omega)
theorem reach{m b:Nat}(hm:GD m)(hb:b<2 ^ 64){j:Nat}(hj:j<m+1):∃k,k≤m+13∧(iK m b k).1=j:=by
 obtain⟨n,hn,e⟩:=Ki hm (Fz m b 13) hj
 exact⟨n+13,by omega,by rw[uY hb,e]⟩
def vals(o:Array (Option Nat))(n:Nat):List Nat:=(List.range n).filterMap fun j=>o.getD j none
structure TabOk (t:SetTable) (n:Nat) (ld:Bool):Prop where
 Mf:GD t.mask
 size:t.place.size=n
 L0:t.dummies= #[]
 room:5*n<3*t.mask
 plain:t.plain=true
 led:t.led=ld
 rise:t.place.toList.Pairwise (· < ·)
section
variable{prog:Program}{w:World}{A:Around}{E:Value→Shared→Prop}{s:Shared}
end
section
variable{prog:Program}{w:World}{A:Around}{R:Result→Shared→Prop}{I:Addr}{fp wr:List Addr}{G:Array GenState→Array GenState→Prop}{n:Nat}{P:Nat→Value→Prop}{St:Nat→Shared→Prop}{ld:Bool}
end
def FL(w:World):Bool:=!w.params.followText "set-order"
section
variable{prog:Program}{w:World}{A:Around}{E:Value→Shared→Prop}{s:Shared}
theorem sv(a:Value){Q₁:Value→Shared→Prop}(h:Q₁ (.ref s.heap.objs.size) {s with heap:=s.heap.push {cls:= .type "set",dict:=none,data:= .set #[] 0 (.fresh 0 0 (FL w))} }):
 codeAny (model prog w) A (.call (.builtin "set.__new__") ⟨[.type "set",a],[]⟩) (wants Q₁ E) s:=by
 refine codeAny_of_tree (show wpAny _ A.in1 (do checkBuiltinCall "set.__new__" ⟨[.type "set",a],[]⟩;again (.builtin "set.__new__" ⟨[.type "set",a],[]⟩)) _ _ s from ?_)
 refine wpAny_bind (wpAny_of_eq (F.newCall_set_1 a) (wpAny_pure ⟨plainId_quiet F.plain_set_new _,codeAny_builtin F.entry_set_new ?_⟩))
 rw[Around.under_plainId F.plain_set_new _]
 unfold Builtin.«set.__new__» Builtin.Frozenset.newClass
 have Az:=sub_set_self
 obtain⟨hp,g,d,tk,os⟩:=s
 dsimp only
 wp_walk
 refine wpAny_askSetting (wpAny_pure ?_)
 simp only[newObj]
 exact wpAny_bind (wpAny_alloc (wpAny_pure (wpAny_pure h)))
end
section
variable{prog:Program}{w:World}{A:Around}{E:Value→Shared→Prop}{s:Shared}
end
end L3
namespace L3
open PySem PySem.Spec L2 HT
open PyProof.Rows hiding St
theorem items_int{P:Program}{w:World}:∀{us:List Value}{ns:List Int},IntsAre us ns→ItemsAre (intKind P w) ns us
 |_,_, .nil=> .nil
 |_,_, .cons n t h=> .cons (intKind_is _ _ _ _) (items_int h)
section
variable{X:Cx}{Xw:Nat→Hp→Prop}{e:Expr}{δ:DE}{pos jI p p2:Pos}
end
end L3
namespace L3
open PySem PySem.SetTable PySem.W PyProof.Rows
section
variable{prog:Program}{w:World}{A:Around}{E:Value→Shared→Prop}{s:Shared}{a:Addr}{o:Obj}{es:Array (Int×Value)}{ep:Nat}{t:SetTable}
end
end L3
namespace L3
open PySem PySem.Spec L2 SeqAt HT
open PyProof.Rows hiding St
section
variable{X:Cx}{Xw:Nat→Hp→Prop}{e:Expr}{δ:DE}{pos jI p p2:Pos}
end
end L3
namespace L3
open PySem PySem.Spec L2 HT
open PyProof.Rows hiding St
section
variable{X:Cx}{Xw:Nat→Hp→Prop}{e:Expr}{δs:DA}{pos p:Pos}
end
section
variable{X:Cx}{Xw:Nat→Hp→Prop}{e:Expr}{δ:DE}{pos jI p p2:Pos}
def oj:D→M D
 | .int n=>if 0≤n∧n≤4096 then M.ret (.lst ((List.range n.toNat).map fun(i:Nat)=>D.int (i:Int))) else M.stuck
 |_=>M.stuck
theorem qT{K:W.Frag}{F:Hp}:∀l:List Nat,DenL K F (l.map fun(i:Nat)=>D.int (i:Int)) (l.map fun(i:Nat)=>V.int (i:Int))
 |[]=> .nil
 |c::l=> .cons rfl (qT l)
theorem yX(hc:X.calm=true)(hg:Gl X "list")(hm:X.mg "list"=none)(HB:Gl X "range")(Au:X.mg "range"=none)(hb:bootBuiltins "list"=some (.type "list"))(Ap:bootBuiltins "range"=some (.type "range"))(ha:PD X Xw e δ)
 (Ff:starEach [e] X.env=[(false,eval e X.env)]:=by rfl)(he:starEach [.Call (.Name "range" p2) [e] [] jI] X.env=[(false,eval (.Call (.Name "range" p2) [e] [] jI) X.env)]:=by rfl):
 PD X Xw (.Call (.Name "list" p) [.Call (.Name "range" p2) [e] [] jI] [] pos) (d1 oj δ):=fun pins s σ H Q I ⟨F,ρ,S,w⟩=>by
 have w:WP X.K Xw F H (δ ρ>>=oj) Q:=w
 refine wpAny_Call_Name_kw (eV I hg hm hb ?_ (by decide) (by decide))
 refine PyProof.Rows.callWith_type1 ?_ he rfl
 rw[he]
 refine Calls.spliced_cons (wpAny_Call_Name_kw (eV I HB Au Ap ?_ (by decide) (by decide)))
 refine PyProof.Rows.callWith_type1 ?_ Ff rfl
 rw[Ff]
 refine Calls.spliced_cons (bY (ha pins s σ H _ I ⟨F,ρ,S,WP.bind w⟩) fun u s1 ⟨v,H1,I1,r,F1,d,e1,q1,w1⟩=>Calls.spliced_nil ?_)
 unfold oj at w1
 split at w1
 ·rename_i n
  split at w1
  ·rename_i hn
   cases (show v=_ from q1)
   obtain⟨t,rfl⟩:=r
   refine call_range_1 (Calls.spliced_nil ?_)
   have hsz:Builtin.Range.rangeSize 0 n 1=(n.toNat:Int):=by
    unfold Builtin.Range.rangeSize
    rw[if_pos (by decide)]
    split
    ·rw[Int.ediv_one];omega
    ·omega
   refine call_list_range (n:=n.toNat) (I1.ok.hd hc) (IsRange.new ..) (small_one (by decide) (by decide) (by omega) (by omega)) hsz (by omega) fun h' tk EL c' kp e hi=>?_
   have hv:Vals ((List.range n.toNat).map fun(i:Nat)=>V.int (i:Int)) EL.toList:=by
    obtain⟨k1,k2⟩:=hi
    refine mQ (by simp[k1]) fun i v u q1 q2=>?_
    obtain⟨t',rfl⟩:=k2 i u (by rw[←Array.getElem?_toList];exact q2)
    rw[List.getElem?_map] at q1
    by_cases tF:i<n.toNat
    ·rw[List.getElem?_range tF] at q1
     cases q1
     exact⟨t',by simp⟩
    ·rw[List.getElem?_eq_none (by simpa using tF)] at q1
     cases q1
   have LJ:∀b o,s1.heap.get? b=some o→h'.get? b=some o:=fun b o q=>kp b o (Heap.get?_push_of_some _ q)
   have CT:=cf
   have hlen:((List.range n.toNat).map fun(i:Nat)=>V.int (i:Int)).length≤lim:=by rw[List.length_map,List.length_range];unfold lim;omega
   have hp:H1 (s1.heap.objs.size+1)=none:=I1.hok.fresh (Nat.le_succ _)
   refine⟨.ref (s1.heap.objs.size+1),_,I1.laid (t':=tk) LJ ?_ (show ObjOk X.prog X.w _ h' _ (.lst ((List.range n.toNat).map fun(i:Nat)=>V.int (i:Int))) from⟨by have:=cf;omega,EL.toList,c',hv,by simpa[Heap.size_push] using e⟩),(by show Value.ref _=Value.ref _;rw[Heap.size_push]),WP.fin w1 (Ext.lay e1.fh hp) ⟨_,_,rfl,aF,qT _,by simpa using hlen⟩⟩
   exact Nat.le_succ _
  ·exact w1.elim
 ·exact w1.elim
end
def lV(a:List Str)(x:Str):List Str:=if x∈a then a else a++[x]
def dI(val:Nat→Str):Nat→List Str
 |0=>[]
 |i+1=>lV (dI val i) (val i)
theorem lW(val:Nat→Str):∀i,(dI val i).length≤i
 |0=>Nat.le_refl _
 |i+1=>by
  have ih:=lW val i
  show (lV _ _).length≤_
  unfold lV
  split
  ·omega
  ·rw[List.length_append,List.length_singleton];omega
theorem yz{a:List Str}{x k:Str}:k∈lV a x↔(k∈a∨k=x):=by
 unfold lV
 split
 ·rename_i h
  exact⟨.inl,fun q=>q.elim id fun e=>e▸h⟩
 ·rw[List.mem_append,List.mem_singleton]
section
variable{prog:Program}{w:World}{A:Around}{R:Result→Shared→Prop}{I:Addr}{fp wr:List Addr}{G:Array GenState→Array GenState→Prop}{n:Nat}{P:Nat→Value→Prop}{St:Nat→Shared→Prop}
def SetS(prog:Program)(w:World)(h:Heap)(a:Addr)(xs:List Str):Prop:=h.SetOf (strKind prog w) a (fun k=>decide (k∈xs)) xs.length
theorem SetS.at{h h':Heap}{a:Addr}{xs:List Str}(x:SetS prog w h a xs)(e:∀o,h.get? a=some o→h'.get? a=some o):SetS prog w h' a xs:=
 let ⟨o,es,ep,t,ho,r⟩:=x
 ⟨o,es,ep,t,e o ho,r⟩
theorem w6(W:WalksS prog w A.in1 I fp wr G n P St)(S:Addr)(GN:S∉fp)(val:Nat→Str)(Ic:∀i v,P i v→∃t,v= .str (val i) t)(hn:n+1<scanBound):∀(k i:Nat) (s:Shared),n - i=k→i≤n→St i s→SetS prog w s.heap S (dI val i)→
 (∀s',Moved (S::wr) G s s'→SetS prog w s'.heap S (dI val n)→R (.ok (.ret .none)) s')→codeAny (model prog w) A (.builtin "set.update.loop" ⟨[.ref S, .ref I],[]⟩) R s:=by
 have JC:S∉wr:=fun h=>GN (W.sub _ h)
 have Az:∀b∈wr,b∈S::wr:=fun b hb=>List.mem_cons_of_mem _ hb
 intro k
 induction k with
 |zero=>
  intro i s hk hi wa hS hR
  obtain rfl:i=n:=by omega
  refine codeAny_builtin PyProof.Rows.F.entry_set_update_loop ?_
  rw[Around.under_plainId PyProof.Rows.F.plain_set_update_loop _]
  show wpAny _ A.in1 (pyNext (.ref I)>>=_) _ _ s
  refine wpAny_bind (W.done s _ _ wa fun s' hm=>?_)
  show wpAny _ A.in1 (ret Value.none) _ _ s'
  exact wpAny_pure (hR s' (hm.mono Az) (hS.at fun o e=>hm.heap S o JC e))
 |succ k ih=>
  intro i s hk hi wa hS hR
  have fX:i<n:=by omega
  refine codeAny_builtin PyProof.Rows.F.entry_set_update_loop ?_
  rw[Around.under_plainId PyProof.Rows.F.plain_set_update_loop _]
  show wpAny _ A.in1 (pyNext (.ref I)>>=_) _ _ s
  refine wpAny_bind (W.item i s _ _ fX wa fun v s' hP H_ hm=>?_)
  obtain⟨t,rfl⟩:=Ic i v hP
  have E8:SetS prog w s'.heap S (dI val i):=hS.at fun o e=>hm.heap S o JC e
  show wpAny _ A.in1 (holding [Value.str (val i) t] (setAdd S (.str (val i) t))>>=_) _ _ s'
  refine wpAny_bind (wpAny_holding ?_)
  unfold setAdd
  refine wpAny_holding (wpAny_bind ((strKind prog w).pyHash (k:=val i) (strKind_is _ _ _ _) ?_))
  have Fv:(dI val i).length+1<scanBound:=by have:=lW val i;omega
  refine wpAny_setAddHashed_of (knd:=strKind prog w) (s:={s' with toks:=s'.toks+1}) (strKind_is _ _ _ _) rfl E8 Fv fun h' C3 KC=>?_
  have KD:SetS prog w h' S (dI val (i+1)):=by
   refine PyProof.Rows.SetOf_congr KC (fun k'=>?_) ?_
   ·show _=decide (k'∈lV (dI val i) (val i))
    rw[Bool.eq_iff_iff]
    simp[yz]
   ·show _=(lV (dI val i) (val i)).length
    unfold lV
    by_cases hx:val i∈dI val i
    ·simp[hx]
    ·simp[hx]
  have J9:∀b o,b≠S→s'.heap.get? b=some o→h'.get? b=some o:=fun b o hb e=>(C3.2 b hb).trans e
  refine wpAny_pure ⟨plainId_quiet PyProof.Rows.F.plain_set_update_loop _,ih (i+1) _ (by omega) fX (W.frame _ s' _ _ H_ (Nat.le_add_right ..) fun b hb o e=>J9 b o (fun z=>GN (z▸hb)) e) KD fun Gn HK Hr=>?_⟩
  exact hR Gn (Moved.trans W.gtrans ((hm.mono Az).then_heap (Nat.le_add_right ..) fun b o hb e=>J9 b o (fun z=>hb (z▸List.mem_cons_self ..)) e) HK) Hr
end
section
variable{prog:Program}{w:World}{A:Around}{E:Value→Shared→Prop}{s:Shared}
set_option maxHeartbeats 3200000 in
theorem mZ{l:Addr}{items:Array Value}{val:Nat→Str}{Q:Value→Shared→Prop}(hh:A.handled=none)(hl:s.heap.IsList l items)(hi:∀(i:Nat) (v:Value),items[i]? =some v→∃t,v= .str (val i) t)(hb:items.size+1<scanBound)
 (h:∀(h':Heap) (tk:Nat),SetS prog w h' s.heap.objs.size (dI val items.size)→(∀b o,b<s.heap.objs.size→s.heap.get? b=some o→h'.get? b=some o)→Q (.ref s.heap.objs.size) {s with heap:=h',toks:=tk}):
 wpAny (model prog w) A (call (.type "set") [.ref l]) Q E s:=by
 obtain⟨c,tl,Lg⟩:=F.called_set.mro
 have JO:=F.called_set.made
 have Az:=F.called_set.sub
 refine wpAny_call (codeAny_of_tree ?_)
 show wpAny _ _ (callAny (.type "set") _) _ _ _
 refine wpAny_pure ⟨Code.quiet_builtin _ (by decide+kernel),codeAny_builtin F.entry_type_call ?_⟩
 rw[Around.under_plain (weight_type_call_type "set" [.ref l] []) rfl]
 have h1:=F.called_set.notType
 have h2:=F.called_set.canCreate
 have L5:=F.typeCall_set_1 (.ref l)
 repeat (any_goals (first | assumption | wp_step))
 refine codeAny_mono (sv (.ref l) (E:=E) (Q₁:=fun obj s₁=>∃led:Bool,led=FL w∧obj= .ref s.heap.objs.size∧s₁={s with heap:=s.heap.push {cls:= .type "set",dict:=none,data:= .set #[] 0 (.fresh 0 0 led)} }) ⟨_,rfl,rfl,rfl⟩) fun r s₁ hr=>?_
 cases r with
 |error e=>exact hr
 |ok fl=>
  cases fl with
  |ret obj=>
   obtain⟨led,La,rfl,rfl⟩:=hr
   have hS:(s.heap.push {cls:= .type "set",dict:=none,data:= .set #[] 0 (.fresh 0 0 led)}).get? s.heap.objs.size=some {cls:= .type "set",dict:=none,data:= .set #[] 0 (.fresh 0 0 led)}:=Heap.get?_push_size _ rfl
   have KG:Shared.TypeIs {s with heap:=s.heap.push {cls:= .type "set",dict:=none,data:= .set #[] 0 (.fresh 0 0 led)} } (.ref s.heap.objs.size) "set":=⟨_,hS,rfl⟩
   have L7:=F.called_set.init.lookup
   have JD:=F.called_set.init.bind (.ref s.heap.objs.size)
   repeat (any_goals (first | assumption | wp_step))
   refine codeAny_mono (codeAny_call_builtin (R:=wants (fun r s₂=>r= .none∧∃h' tk,s₂={s with heap:=h',toks:=tk}∧SetS prog w h' s.heap.objs.size (dI val items.size)∧(∀b o,b<s.heap.objs.size→s.heap.get? b=some o→h'.get? b=some o)) E) F.called_set.init.plain F.entry_set_init (check_set_init_1 KG ?_)) fun r₂ s₂ H9=>?_
   ·obtain⟨ol,JR,Fc,nl,JF⟩:=hl
    obtain⟨LO,FT,J7,DD⟩:=ol
    simp only at Fc JF
    subst Fc;subst JF
    have HW:(s.heap.push {cls:= .type "set",dict:=none,data:= .set #[] 0 (.fresh 0 0 led)}).get? l=some {cls:= .type "list",dict:=FT,data:= .seq items nl,slots:=DD}:=Heap.get?_push_of_some _ JR
    have Lu:=F.sub_list_set
    have Ls:=F.sub_list_frozenset
    have dB:(Value.type "list"==Value.type "dict")=false:=by decide
    have yj:(s.heap.push {cls:= .type "set",dict:=none,data:= .set #[] 0 (.fresh 0 0 led)}).IsList l items:=⟨_,HW,rfl,nl,rfl⟩
    unfold Builtin.«set.__init__» noKeywords Builtin.Frozenset.updateFrom
    generalize Ky:pyIter=PI
    wp_walk
    subst Ky
    refine wpAny_pyIter_list yj (wpAny_bind (wpAny_runValue ?_))
    have JL:l<s.heap.objs.size:=Heap.lt_size JR
    have KZ:A.in1.in1.in1.handled=none:=by simp[hh]
    have HP:l≠(s.heap.push {cls:= .type "set",dict:=none,data:= .set #[] 0 (.fresh 0 0 led)}).objs.size:=by
     rw[Heap.size_push];exact Nat.ne_of_lt (Nat.lt_succ_of_lt JL)
    have GN:s.heap.objs.size∉[(s.heap.push {cls:= .type "set",dict:=none,data:= .set #[] 0 (.fresh 0 0 led)}).objs.size,l]:=by
     rw[Heap.size_push];simp only[List.mem_cons,List.mem_singleton,List.not_mem_nil,or_false,not_or]
     exact⟨Nat.ne_of_lt (Nat.lt_succ_self _),Nat.ne_of_gt JL⟩
    refine w6 ((Walks.list KZ _ l HP items).toS) s.heap.objs.size GN val hi hb (items.size - 0) 0 _ (by omega) (Nat.zero_le _) ⟨⟨_,Heap.get?_push_size _ rfl,rfl,rfl⟩,(yj.push _)⟩ ?hS0 ?hR
    case hS0=>
     refine PyProof.Rows.SetOf_congr ((PyProof.Rows.setObjOf_fresh (knd:=strKind prog w) led).setOf (Heap.get?_push_of_some _ hS) (by unfold scanBound;omega)) (fun _=>?_) rfl
     rw[eq_comm,decide_eq_false_iff_not]
     exact List.not_mem_nil
    case hR=>
     intro s' hm E8
     obtain⟨h',g',d',LW,IE⟩:=s'
     obtain rfl:g'=s.gens:=hm.gens
     obtain rfl:d'=s.drawn:=hm.drawn
     obtain rfl:IE=s.os:=hm.os
     show wpAny _ _ _ _ _ _
     refine wpAny_pure ?_
     show wpAny _ _ (ret Value.none) _ _ _
     refine wpAny_pure ⟨rfl,h',LW,rfl,E8,fun b o hb e=>?_⟩
     have GO:b≠s.heap.objs.size:=Nat.ne_of_lt hb
     have Ap:b≠(s.heap.push {cls:= .type "set",dict:=none,data:= .set #[] 0 (.fresh 0 0 led)}).objs.size:=by
      rw[Heap.size_push];exact Nat.ne_of_lt (Nat.lt_succ_of_lt hb)
     exact hm.heap b o (by simp only[List.mem_cons,List.mem_singleton,List.not_mem_nil,or_false,not_or];exact⟨GO,Ap⟩) (Heap.get?_push_of_some _ (Heap.get?_push_of_some _ e))
   ·cases r₂ with
    |error e=>exact H9
    |ok Kr=>
     cases Kr with
     |ret r=>
      obtain⟨rfl,h',tk,rfl,E8,xo⟩:=H9
      repeat (any_goals (first | assumption | wp_step))
      exact h _ _ E8 xo
     |_=>exact H9.elim
  |_=>exact hr.elim
end
section
variable{X:Cx}{Xw:Nat→Hp→Prop}{e:Expr}{δ:DE}{pos jI p p2:Pos}
def et:D→M D
 | .lst ds=>match jW ds with
   |some xs=>if xs.length≤64 then M.ret (.int (dI (fun i=>xs.getD i ⟨#[]⟩) xs.length).length) else M.stuck
   |none=>M.stuck
 |_=>M.stuck
theorem ud(hc:X.calm=true)(hg:Gl X "len")(hm:X.mg "len"=none)(HB:Gl X "set")(Au:X.mg "set"=none)(hb:bootBuiltins "len"=some (.builtin "len"))(Ap:bootBuiltins "set"=some (.type "set"))(ha:PD X Xw e δ)
 (Ff:starEach [e] X.env=[(false,eval e X.env)]:=by rfl)(he:starEach [.Call (.Name "set" p2) [e] [] jI] X.env=[(false,eval (.Call (.Name "set" p2) [e] [] jI) X.env)]:=by rfl):
 PD X Xw (.Call (.Name "len" p) [.Call (.Name "set" p2) [e] [] jI] [] pos) (d1 et δ):=fun pins s σ H Q I ⟨F,ρ,S,w⟩=>by
 have w:WP X.K Xw F H (δ ρ>>=et) Q:=w
 refine wpAny_Call_Name_kw (eV I hg hm hb ?_ (by decide) (by decide))
 refine PyProof.Rows.callWith_builtin1 ?_ he rfl
 rw[he]
 refine Calls.spliced_cons (wpAny_Call_Name_kw (eV I HB Au Ap ?_ (by decide) (by decide)))
 refine PyProof.Rows.callWith_type1 ?_ Ff rfl
 rw[Ff]
 refine Calls.spliced_cons (bY (ha pins s σ H _ I ⟨F,ρ,S,WP.bind w⟩) fun u s1 ⟨v,H1,I1,r,F1,d,e1,q1,w1⟩=>Calls.spliced_nil ?_)
 unfold et at w1
 split at w1
 ·rename_i ds
  split at w1
  ·rename_i xs C4
   split at w1
   ·rename_i K5
    obtain⟨a,ws,rfl,h2,h3,h4⟩:=q1
    cases (show u=_ from r)
    obtain rfl:=jj C4 h3
    obtain⟨aA,rv,pl,hz⟩:=I1.list (SqL.of (e1.fh _ _ h2))
    have hl:=rv.length
    rw[List.length_map] at hl
    refine mZ (val:=fun i=>xs.getD i ⟨#[]⟩) (I1.ok.hd hc) pl.isList (fun i v hv=>?_) (by rw[List.size_toArray];unfold scanBound;omega) fun h' tk hS hk=>Calls.spliced_nil ?_
    ·have hi:i<aA.length:=by simpa using (Array.getElem?_eq_some_iff.mp hv).1
     have r:=jY i rv (by rw[List.length_map];omega)
     rw[List.getD_eq_getElem?_getD,List.getElem?_map,List.getElem?_eq_getElem (by omega:i<xs.length),List.getD_eq_getElem?_getD,List.getElem?_eq_getElem hi] at r
     obtain⟨t,q⟩:=(show RelV (.str xs[i]) aA[i] from r)
     rw[List.getElem?_toArray,List.getElem?_eq_getElem hi] at hv
     cases hv
     exact⟨t,by rw[q,List.getD_eq_getElem?_getD,List.getElem?_eq_getElem (by omega:i<xs.length)];rfl⟩
    ·have hn:=lW (fun i=>xs.getD i ⟨#[]⟩) aA.toArray.size
     obtain⟨o,es,ep,t,ho,hex,hd,L6,Ld,hb,hf,hn⟩:=hS
     refine call_len_set ho hex hd hf (by unfold scanBound at hb;omega) ⟨.int es.size,H1,I1.kept fun b o q=>hk b o (Heap.lt_size q) q,⟨_,rfl⟩,?_⟩
     rw[hn,List.size_toArray,←hl]
     exact WP.now w1 e1.fh rfl
   ·exact w1.elim
  ·exact w1.elim
 ·exact w1.elim
end
section
variable{X:Cx}{Xw:Nat→Hp→Prop}{a b:Expr}{δa δb:DE}{pos:Pos}
def ly(neg:Bool):D→D→M D
 | .int i, .lst ds=>match nums ds with | some ns=>M.ret (.bl (if neg then !ns.contains i else ns.contains i)) | none=>M.stuck
 |_,_=>M.stuck
theorem AB{neg:Bool}{K:W.Frag}:qF K (II K neg) (ly neg):=fun Xw F H x y dx dy Q s hx hy w=>by
 unfold ly at w
 split at w
 ·rename_i i ds
  obtain⟨a,vs,h1,h2,h3,h4⟩:=hy
  split at w
  ·rename_i ns hn
   have hv:=gg hn h3
   subst hv
   cases (show _=_ from hx)
   refine⟨a,ns.map V.int,h1, .inl (SqL.of (s _ _ h2)),rfl,?_,?_⟩
   ·rw[List.all_map]
    exact List.all_eq_true.mpr fun _ _=>rfl
   ·rw[ri]
    exact WP.now w s rfl
  ·exact w.elim
 ·exact w.elim
theorem uf(ha:PD X Xw a δa)(hb:PD X Xw b δb)(hm:behindInMarks .NotIn b=false:=by rfl):PD X Xw (.Compare a [.NotIn] [b] pos) (d2 (ly true) δa δb):=mr i4 AB ha hb hm
end
section
variable{prog:Program}{w:World}{A:Around}{E:Value→Shared→Prop}{s:Shared}
theorem nq{t:Addr}{items:Array Value}{u:Tok}{Q:Value→Shared→Prop}(ht:IsTup s.heap t items)(h:Q (.ref t) s):wpAny (model prog w) A (call (.builtin "tuple.__mul__") [.ref t, .int 1 u]) Q E s:=by
 obtain⟨⟨cls,dd,data,sl⟩,ho,hc,n,hd⟩:=id ht
 simp only at hc hd
 subst hc hd
 refine wpAny_call_entry F.slot_tuple_mul ht.typeIs F.entry_tuple_mul ?_ (F.args_tuple_mul_2 _ _)
 unfold Builtin.«tuple.__mul__»
 refine wpAny_bind (m:=asIndex (.int 1 u)) (wpAny_of_eq (a:=(1:Int)) rfl ?_)
 show wpAny _ _ (if ((1:Int)< -(2 ^ 63)||(1:Int)≥2 ^ 63)=true then _ else _) _ _ s
 rw[if_neg (by decide)]
 refine wpAny_bind (tupleItemsOf_ ht ?_)
 show wpAny _ _ (if (items.isEmpty||(1:Int)==1)=true then _ else _) _ _ s
 rw[if_pos (by simp)]
 unfold Builtin.Tuple.tupleIsExact
 refine wpAny_bind (wpAny_bind (wpAny_typeOf ht.typeIs (wpAny_pure ?_)))
 rw[if_pos (by decide)]
 exact wpAny_bind (wpAny_rule (wpAny_pure ⟨_,rfl,h⟩))
end
section
variable{X:Cx}{Xw:Nat→Hp→Prop}{a b:Expr}{δa δb:DE}{pos:Pos}
def Gi(K:W.Frag):R2:=fun x y H Q=>zt K x y H Q∨∃l xs,x= .ref l∧y= .int 1∧SqT K H l xs∧Q (.ref l) H
theorem AZ:OpR X (binaryOp .Mult) (Gi X.K):=by
 intro pins s σ H x y v u Q I rx ry h
 rcases h with h | ⟨l,xs,rfl,rfl,hH,q⟩
 ·exact AY pins s σ H x y v u Q I rx ry h
 cases rx
 obtain⟨t,rfl⟩:=ry
 obtain⟨aA,r,pt,_⟩:=I.tuple hH
 obtain⟨⟨cls,dd,data,sl⟩,ho,hc,n,hd⟩:=id pt
 simp only at hc hd
 subst hc hd
 exact wpAny_binaryOp_repeat_ref (T:="tuple") (U:="int") (by decide) ⟨_,ho,rfl⟩ (fun s'=>typeIs_int s' 1 t) fk F.fills_int_mul F.slot_int_rmul je F.slot_int_index.lookup
  (call_meets F.slot_int_rmul (typeIs_int s 1 t) F.entry_int_rmul (F.args_int_rmul_2 _ _) (gf 1 t l aA.toArray n dd sl)
   ⟨ho,rfl,⟨_,ho,rfl⟩,nq pt ⟨.ref l,H,I,rfl,q⟩⟩)
def rb:D→D→M D
 | .tup x, .int k=>if k=1 then M.ret (.tup x) else yd (.tup x) (.int k)
 |_,_=>M.stuck
theorem zy{K:W.Frag}:qF K (zt K) yd:=fun Xw F H x y dx dy Q s hx hy w=>by
 unfold yd at w
 split at w
 ·rename_i i k
  obtain⟨a,vs,h1,h2,h3,h4⟩:=hx
  split at w
  ·rename_i hl
   obtain⟨l1,l2,l3⟩:=hl
   have e1:=h3.len
   have:=cf
   refine⟨a,k,vs,h1,hy,SqT.of (s _ _ h2),l1,?_,by rw[←e1];omega,fun p hp=>?_⟩
   ·rintro rfl
    simp at e1
    rw[e1] at l2
    simp at l2
   ·exact WP.fin w (Ext.lay s hp) ⟨p,_,rfl,aF,DenL.mono (Ext.lay s hp).ff (h3.rep _),by rw[len_rep,Nat.mul_comm];exact l3⟩
  ·exact w.elim
 ·exact w.elim
theorem A8(ha:PD X Xw a δa)(hb:PD X Xw b δb):PD X Xw (.BinOp a .Mult b pos) (d2 rb δa δb):=h7 AZ (fun Xw F H x y dx dy Q s hx hy w=>by
 unfold rb at w
 split at w
 ·rename_i i k
  split at w
  ·rename_i hk
   obtain⟨a,vs,h1,h2,h3,h4⟩:=id hx
   subst hk
   exact .inr ⟨a,vs,h1,hy,SqT.of (s _ _ h2),WP.now w s (h1▸hx)⟩
  ·exact .inl (zy Xw F H x y _ _ Q s hx hy w)
 ·exact w.elim) ha hb
end
end L3
namespace L3
def IP(n:Nat)(δs:DA):DS:=fun _=>M.stuck
end L3
namespace K1
open PySem PySem.Spec L2 L3
open PyProof.Rows hiding St
def uE:DS:=(aW (eh (dA fY (aC (dV 0) (aC (dC (.raw (.ty "int"))) aN))) (BQ (dA fY (aC (dV 0) (aC (dC (.raw (.ty "bool"))) aN))))))
def bj:List D→M D:=b_ 1 (uE)
def sJ:DS:=(aW (eh (dA fY (aC (dV 0) (aC (dC (.raw (.ty "str"))) aN))) (eh (d2 nS (dA a_ (aC (dV 0) aN)) (dC (.int 1))) (d2 (x_ false) (dV 0) (dC (.str "abcdef"))))))
def cw:List D→M D:=b_ 1 (sJ)
def mT:DS:=(aW (aX 0 (fun ρ=>(aC (dA a_ (aC (d2 aU (dV 0) (dC (.int 0))) aN)) aN) ρ>>=ib) bW (dA c9 (aC (dV 2) (aC (dV 0) aN)))))
def aO:List D→M D:=b_ 2 (mT)
def sO:DS:=(aW (d2 pD (d2 aU (dV 0) (d2 aU (dV 1) (dC (.int 0)))) (d2 aU (dV 1) (dC (.int 1)))))
def b0:List D→M D:=b_ 2 (sO)
def uC:DS:=(az (bO 3 (dA xu (aC (d2 tE (d2 aU (dV 0) (dC (.int 0))) (d2 aU (dV 1) (dC (.int 0)))) aN))) (az (bO 4 (dA xu (aC (d2 tE (d2 aU (dV 0) (dC (.int 1))) (d2 aU (dV 1) (dC (.int 1)))) aN))) (az (eB (c0 (d2 nS (dV 2) (dC (.int 4)))) (aW (d2 nS (d2 c6 (dV 3) (dV 4)) (dC (.int 1)))) bT) (aW (d2 nS (dA tO (aC (dV 3) (aC (dV 4) aN))) (dC (.int 1)))))))
def cV:List D→M D:=b_ 5 (uC)
def BL:DS:=(az (vC 1) (az (fun ρ=>noex ((da (putN 2) (C6 (ck (dV 0)) (fun ρ=>(dV 0) ρ>>=j8)) (cb [2] (ie 1 (dV 2) (dC (.bl true))))) ρ)) (zF 1 (aW (dV 1)))))
def iO:List D→M D:=b_ 3 (BL)
def mV:DS:=(az (eB (c0 (d2 nS (dV 0) (dA cO aN))) (aW (d2 gc (dC (.int 7)) (dV 1))) bT) (aW (d2 c6 (d2 ya (dV 0) (d2 iQ (dV 1) (dA a_ (aC (dV 0) aN)))) (d2 gc (dC (.int 6553)) (d2 m6 (dV 1) (dA a_ (aC (dV 0) aN)))))))
def ej:List D→M D:=b_ 2 (mV)
def sL:DS:=(az (eB (pq (cq (b7 (dA fY (aC (dV 0) (aC (dC (.raw (.ty "str"))) aN))))) (cq (c0 (s8 (fun i j=>decide (i≤j)) (fun i j=>decide (i≤j)) (dC (.int 1)) (dA a_ (aC (dV 0) aN)) (dC (.int 8)))))) (aW (dC (.bl false))) bT) (aW (dA allM (aC (aX 0 (fun ρ=>(dV 0) ρ>>=Eh) bW (ak 1 cw (aC (dV 0) aN))) aN))))
def ei:List D→M D:=b_ 1 (sL)
def o7:DS:=(az (eB (pq (cq (b7 (dA fY (aC (dV 1) (aC (dC (.raw (.ty "tuple"))) aN))))) (c0 (d2 g7 (dA a_ (aC (dV 1) aN)) (dC (.int 2))))) (aW (dC (.bl false))) bT) (az (eB (pq (cq (b7 (ak 1 bj (aC (d2 aU (dV 1) (dC (.int 0))) aN)))) (cq (b7 (ak 1 bj (aC (d2 aU (dV 1) (dC (.int 1))) aN))))) (aW (dC (.bl false))) bT) (aW (eh (s8 (fun i j=>decide (i≤j)) (fun i j=>decide (i<j)) (dC (.int 0)) (d2 aU (dV 1) (dC (.int 0))) (dA a_ (aC (dV 0) aN))) (s8 (fun i j=>decide (i≤j)) (fun i j=>decide (i<j)) (dC (.int 0)) (d2 aU (dV 1) (dC (.int 1))) (dA a_ (aC (d2 aU (dV 0) (dC (.int 0))) aN)))))))
def gR:List D→M D:=b_ 2 (o7)
def sQ:DS:=(eB (pq (cq (b7 (ak 1 bj (aC (dV 0) aN)))) (c0 (d2 (Am true) (dV 0) (dA c9 (aC (dC (.int 4)) (aC (dC (.int 8)) aN)))))) (IP 1 (aC (dC (.str "ways are 4 or 8")) aN)) bT)
def ba:List D→M D:=b_ 1 (sQ)
def sI:DS:=(az (uk 1) (az (fun ρ=>noex ((da (putN 2) (fun ρ=>(aC (dA a_ (aC (dV 0) aN)) aN) ρ>>=ib) (cb [2] (zD 1 (ak 2 aO (aC (dV 0) (aC (dV 2) aN)))))) ρ)) (zF 1 (aW (dV 1)))))
def cZ:List D→M D:=b_ 3 (sI)
def qC:DS:=(az (uk 3) (az (fun ρ=>noex ((da (putN 4) (fun ρ=>(aC (dA tO (aC (d2 tE (d2 aU (dV 1) (dC (.int 0))) (dC (.int 1))) (aC (dC (.int 0)) aN))) (aC (dA wy (aC (d2 c6 (d2 aU (dV 1) (dC (.int 0))) (dC (.int 2))) (aC (dA a_ (aC (dV 0) aN)) aN))) aN)) ρ>>=oV) (cb [4,5] (da (putN 5) (fun ρ=>(aC (dA tO (aC (d2 tE (d2 aU (dV 1) (dC (.int 1))) (dC (.int 1))) (aC (dC (.int 0)) aN))) (aC (dA wy (aC (d2 c6 (d2 aU (dV 1) (dC (.int 1))) (dC (.int 2))) (aC (dA a_ (aC (d2 aU (dV 0) (dC (.int 0))) aN)) aN))) aN)) ρ>>=oV) (cb [5] (eB (b7 (ak 3 cV (aC (dV 1) (aC (dA c9 (aC (dV 4) (aC (dV 5) aN))) (aC (dV 2) aN))))) (kO 3 (dA c9 (aC (dV 4) (aC (dV 5) aN)))) bT))))) ρ)) (zF 3 (aW (dV 3)))))
def cE:List D→M D:=b_ 6 (qC)
def kE:DS:=(az (bO 3 (d2 iQ (d2 c6 (d2 gc (d2 iQ (ak 2 ej (aC (dV 0) (aC (dV 1) aN))) (dC (.int 2147483563))) (dC (.int 69069))) (d2 gc (dC (.int 104723)) (d2 c6 (dV 1) (dC (.int 1))))) (dC (.int 2147483563)))) (az (bO 3 (d2 iQ (d2 c6 (d2 gc (dV 3) (dV 3)) (d2 m6 (dV 3) (dC (.int 3)))) (dC (.int 2147483399)))) (aW (d2 iQ (d2 m6 (d2 iQ (d2 c6 (d2 gc (dV 3) (dV 3)) (d2 m6 (dV 3) (dC (.int 7)))) (dC (.int 2147483647))) (dC (.int 11))) (dV 2)))))
def aY:List D→M D:=b_ 4 (kE)
def mU:DS:=(az (eB (pq (cq (b7 (dA fY (aC (dV 0) (aC (dC (.raw (.ty "tuple"))) aN))))) (cq (c0 (s8 (fun i j=>decide (i≤j)) (fun i j=>decide (i≤j)) (dC (.int 1)) (dA a_ (aC (dV 0) aN)) (dC (.int 8)))))) (aW (dC (.bl false))) bT) (az (eB (cq (b7 (dA allM (aC (aX 0 (qR (dV 0)) bW (ak 1 ei (aC (dV 0) aN))) aN)))) (aW (dC (.bl false))) bT) (aW (dA allM (aC (aX 0 (qR (dV 0)) bW (d2 nS (dA a_ (aC (dV 0) aN)) (dA a_ (aC (d2 aU (dV 1) (dC (.int 0))) aN)))) aN)))))
def fG:List D→M D:=b_ 1 (mU)
def sP:DS:=(eB (cq (b7 (ak 2 gR (aC (dV 0) (aC (dV 1) aN))))) (IP 2 (aC (dC (.str "a tuple (row, column) on the board is asked for")) aN)) bT)
def bJ:List D→M D:=b_ 2 (sP)
def qA:DS:=(az (bO 3 (ak 2 b0 (aC (dV 0) (aC (dV 1) aN)))) (aW (aX 0 (ck (ak 3 cE (aC (dV 0) (aC (dV 1) (aC (dV 2) aN))))) (c0 (d2 nS (ak 2 b0 (aC (dV 1) (aC (dV 0) aN))) (dV 4))) (dV 0))))
def b8:List D→M D:=b_ 4 (qA)
def sM:DS:=(az (bO 3 (d2 c6 (dC (.int 1)) (ak 3 aY (aC (dV 0) (aC (dV 1) (aC (dV 2) aN)))))) (az (bO 4 (d2 c6 (dC (.int 1)) (ak 3 aY (aC (dV 0) (aC (d2 c6 (dV 1) (dC (.int 1))) (aC (dV 2) aN)))))) (az (bO 5 (d2 cx (dA cO (aC (dC (.str "ab")) (aC (dC (.str "abc")) (aC (dC (.str "aab")) (aC (dC (.str "fa")) aN))))) (ak 3 aY (aC (dV 0) (aC (d2 c6 (dV 1) (dC (.int 2))) (aC (dC (.int 4)) aN)))))) (az (bO 6 (dA c9 aN)) (az (fun ρ=>noex ((da (putN 7) (fun ρ=>(aC (dV 3) aN) ρ>>=ib) (cb [7,8] (az (bO 8 (aX 0 (fun ρ=>(aC (dV 4) aN) ρ>>=ib) bW (d2 pD (dV 6) (ak 3 aY (aC (dV 1) (aC (d2 c6 (d2 c6 (d2 c6 (dV 2) (dC (.int 3))) (d2 gc (dC (.int 7)) (dV 8))) (dV 0)) (aC (dA a_ (aC (dV 6) aN)) aN))))))) (bO 6 (d2 j6 (dV 6) (dA c9 (aC (dM FF joinM (dC (.str "")) (aC (dV 8) aN)) aN))))))) ρ)) (aW (dV 6)))))))
def dG:List D→M D:=b_ 9 (sM)
def qB:DS:=(eB (cq (b7 (ak 1 fG (aC (dV 0) aN)))) (IP 0 (aC (dC (.str "a tuple of 1 to 8 texts of 1 to 8 letters, all as long, is asked for")) aN)) bT)
def aI:List D→M D:=b_ 1 (qB)
def qE:DS:=(az (zG 3 (fun ρ=>(dV 1) ρ>>=fun x=>(dC .non) ρ>>=fun y=>nL x y)) (az (bO 4 (dA cO (aC (dV 1) aN))) (az (fun ρ=>noex ((zH (b7 (dV 4)) (cb [5,6,7] (az (uk 5) (az (da (putN 6) (ck (dV 4)) (cb [6,7] (da (putN 7) (ck (ak 3 b8 (aC (dV 0) (aC (dV 6) (aC (dV 2) aN))))) (cb [7] (eB (Cm (c0 (d2 (kK true) (dV 7) (dV 3)))) (az (ie 3 (dV 7) (dV 6)) (kO 5 (dV 7))) bT))))) (zF 5 (bO 4 (dV 5))))))) ρ)) (zF 3 (aW (dV 3))))))
def aJ:List D→M D:=b_ 8 (qE)
def BK:DS:=(az (e7 (ak 1 aI (aC (dV 0) aN))) (aW (ak 1 cZ (aC (dV 0) aN))))
def eK:List D→M D:=b_ 1 (BK)
def j1:DS:=(az (e7 (ak 1 aI (aC (dV 0) aN))) (az (e7 (ak 1 ba (aC (dV 1) aN))) (az (e7 (ak 2 bJ (aC (dV 0) (aC (dV 2) aN)))) (e7 (ak 2 bJ (aC (dV 0) (aC (dV 3) aN)))))))
def cC:List D→M D:=b_ 4 (j1)
def uG:DS:=(az (e7 (ak 1 aI (aC (dV 0) aN))) (az (e7 (ak 2 bJ (aC (dV 0) (aC (dV 1) aN)))) (az (e7 (ak 1 ba (aC (dV 2) aN))) (aW (dA gH (aC (ak 3 aJ (aC (dV 0) (aC (dV 1) (aC (dV 2) aN)))) aN))))))
def dm:List D→M D:=b_ 3 (uG)
def xj:DS:=(az (e7 (ak 4 cC (aC (dV 0) (aC (dV 1) (aC (dV 2) (aC (dV 3) aN)))))) (aW (d2 (kK false) (dV 3) (ak 3 aJ (aC (dV 0) (aC (dV 2) (aC (dV 1) aN)))))))
def d5:List D→M D:=b_ 4 (xj)
def qD:DS:=(az (vC 1) (az (fun ρ=>noex ((da (mC [2,3]) (fun ρ=>(aC (dV 0) aN) ρ>>=nP) (cb [2,3,4] (da (putN 4) (ck (dV 3)) (cb [4] (ie 1 (dV 4) (dV 2)))))) ρ)) (zF 1 (aW (dV 1)))))
def dY:List D→M D:=b_ 5 (qD)
def sN:DS:=(az (e7 (ak 1 aI (aC (dV 0) aN))) (az (e7 (ak 2 bJ (aC (dV 0) (aC (dV 1) aN)))) (aW (ak 2 b0 (aC (dV 0) (aC (dV 1) aN))))))
def bZ:List D→M D:=b_ 2 (sN)
def nu:DS:=(az (uk 2) (az (vC 3) (az (fun ρ=>noex ((da (putN 4) (ck (ak 1 cZ (aC (dV 0) aN))) (cb [4,5] (eB (Cm (c0 (d2 (kK true) (dV 4) (dV 3)))) (az (bO 5 (dA gH (aC (ak 3 aJ (aC (dV 0) (aC (dV 4) (aC (dV 1) aN)))) aN))) (az (kO 2 (dV 5)) (wZ 3 (ak 1 iO (aC (dV 5) aN))))) bT))) ρ)) (zF 2 (aW (dV 2))))))
def bA:List D→M D:=b_ 6 (nu)
def xk:DS:=(az (e7 (ak 1 aI (aC (dV 0) aN))) (az (e7 (ak 1 ba (aC (dV 1) aN))) (aW (ak 2 bA (aC (dV 0) (aC (dV 1) aN))))))
def br:List D→M D:=b_ 2 (xk)
def uD:DS:=(az (e7 (ak 1 aI (aC (dV 0) aN))) (az (e7 (ak 1 ba (aC (dV 1) aN))) (aW (dA a_ (aC (ak 2 bA (aC (dV 0) (aC (dV 1) aN))) aN)))))
def bh:List D→M D:=b_ 2 (uD)
def uF:DS:=(az (e7 (ak 1 aI (aC (dV 0) aN))) (az (e7 (ak 1 ba (aC (dV 1) aN))) (az (bO 2 (ak 1 dY (aC (ak 2 bA (aC (dV 0) (aC (dV 1) aN))) aN))) (az (uk 3) (az (fun ρ=>noex ((da (putN 4) (fun ρ=>(aC (dA a_ (aC (dV 0) aN)) aN) ρ>>=ib) (cb [4] (kO 3 (aX 0 (ck (ak 2 aO (aC (dV 0) (aC (dV 4) aN)))) bW (d2 ra (dV 3) (dV 0)))))) ρ)) (zF 3 (aW (dV 3))))))))
def dj:List D→M D:=b_ 5 (uF)
def kF:DS:=(bO 1 (ak 3 dG (aC (dV 0) (aC (dC (.int 0)) (aC (dC (.int 5)) aN)))))
def kG:DS:=(fun ρ=>noex ((da (putN 2) (qR (dA c9 (aC (dC (.int 4)) (aC (dC (.int 8)) aN)))) (cb [2,3,4,5,6,7,8,9,10] (az (bO 3 (ak 2 br (aC (dV 1) (aC (dV 2) aN)))) (az (bO 4 (ak 2 dj (aC (dV 1) (aC (dV 2) aN)))) (az (eB (c0 (d2 g7 (dA a_ (aC (dV 3) aN)) (ak 2 bh (aC (dV 1) (aC (dV 2) aN))))) (aW (dC (.bl false))) bT) (az (eB (c0 (d2 g7 (aX 0 (ck (dV 3)) bW (d2 cx (dV 0) (dC (.int 0)))) (dA uv (aC (aX 0 (ck (dV 3)) bW (d2 cx (dV 0) (dC (.int 0)))) aN)))) (aW (dC (.bl false))) bT) (az (bO 5 (dA cO aN)) (az (da (mC [6,7]) (fun ρ=>(aC (dV 3) aN) ρ>>=nP) (cb [6,7,8] (az (bO 5 (d2 lx (dV 5) (dV 7))) (az (eB (c0 (d2 g7 (aX 0 (ck (dV 7)) (c0 (d2 g7 (d2 cx (d2 cx (dV 5) (d2 aU (dV 0) (dC (.int 0)))) (d2 aU (dV 0) (dC (.int 1)))) (dV 7))) (dV 0)) (dA cO aN))) (aW (dC (.bl false))) bT) (az (eB (c0 (d2 g7 (d1 et (aX 0 (ck (dV 7)) bW (ak 2 bZ (aC (dV 2) (aC (dV 0) aN))))) (dC (.int 1)))) (aW (dC (.bl false))) bT) (da (putN 8) (ck (Hh (dV 7) oN (oS (dC (.int 3))))) (cb [8] (az (eB (c0 (d2 g7 (ak 3 dm (aC (dV 1) (aC (dV 8) (aC (dV 2) aN)))) (dV 7))) (aW (dC (.bl false))) bT) (eB (cq (b7 (ak 4 d5 (aC (dV 1) (aC (dV 2) (aC (dV 8) (aC (d2 cx (dV 7) (dC (.int 0))) aN))))))) (aW (dC (.bl false))) bT))))))))) (az (eB (c0 (d2 g7 (dA uv (aC (dV 5) aN)) (ak 1 eK (aC (dV 1) aN)))) (aW (dC (.bl false))) bT) (az (bO 9 (dA cO aN)) (az (Bx [6,8] (da (putN 8) (ck (ak 1 eK (aC (dV 1) aN))) (cb [6,8] (az (bO 6 (d2 cx (d2 cx (dV 4) (d2 aU (dV 8) (dC (.int 0)))) (d2 aU (dV 8) (dC (.int 1))))) (bO 9 (d2 lx (dV 9) (d2 An (dA cO (aC (dV 6) aN)) (dA yr (aC (d2 (ly true) (dV 6) (dV 9)) aN))))))))) (az (eB (c0 (d2 g7 (dV 9) (d1 oj (dA a_ (aC (dV 3) aN))))) (aW (dC (.bl false))) bT) (az (bO 10 (d2 j6 (dV 1) (dA c9 (aC (d2 lz (dC (.str "e")) (dA a_ (aC (d2 aU (dV 1) (dC (.int 0))) aN))) aN)))) (az (eB (c0 (d2 g7 (ak 2 bh (aC (dV 10) (aC (dV 2) aN))) (d2 c6 (dA a_ (aC (dV 3) aN)) (dC (.int 1))))) (aW (dC (.bl false))) bT) (eB (c0 (d2 g7 (ak 2 bh (aC (d2 rb (dA c9 (aC (d2 lz (dC (.str "d")) (dA a_ (aC (d2 aU (dV 1) (dC (.int 0))) aN))) aN)) (dA a_ (aC (dV 1) aN))) (aC (dV 2) aN))) (dC (.int 1)))) (aW (dC (.bl false))) bT))))))))))))))) ρ))
def kH:DS:=(Bx [7] (fun ρ=>noex ((da (putN 7) (ck (ak 2 br (aC (dV 1) (aC (dC (.int 4)) aN)))) (cb [7,11] (az (bO 11 (d2 cx (aX 0 (ck (ak 2 br (aC (dV 1) (aC (dC (.int 8)) aN)))) (c0 (d2 (m7 false) (d2 cx (dV 8) (dC (.int 0))) (dV 0))) (dV 0)) (dC (.int 0)))) (eB (c0 (d2 g7 (aX 0 (ck (dV 7)) (c0 (d2 (m7 true) (dV 0) (dV 12))) (dV 0)) (dA cO aN))) (aW (dC (.bl false))) bT)))) ρ)))
def kI:DS:=(aW (d2 Ju (ak 2 bh (aC (dV 1) (aC (dC (.int 8)) aN))) (ak 2 bh (aC (dV 1) (aC (dC (.int 4)) aN)))))
def j0:DS:=(az kF (az kG (az kH kI)))
def gS:List D→M D:=b_ 12 j0
structure Bl (K:W.Frag) (mg:Str→Option Value) (base:Heap) (cv:Nat→Value) (cA:Nat→Addr) (Cp:Addr):Prop where
 len:mg "len"=none
 isinstance:mg "isinstance"=none
 all:mg "all"=none
 abs:mg "abs"=none
 max:mg "max"=none
 min:mg "min"=none
 range:mg "range"=none
 str:mg "str"=none
 int:mg "int"=none
 bool:mg "bool"=none
 tuple:mg "tuple"=none
 list:mg "list"=none
 set:mg "set"=none
 sorted:mg "sorted"=none
 enumerate:mg "enumerate"=none
 LETTERS:∃t,mg "LETTERS"=some (.str "abcdef" t)
 MOST_ROWS:∃t,mg "MOST_ROWS"=some (.int 8 t)
 MOST_COLUMNS:∃t,mg "MOST_COLUMNS"=some (.int 8 t)
section
variable{P:Program}{w:World}{K:W.Frag}{mg:Str→Option Value}{base:Heap}{cv:Nat→Value}{cA:Nat→Addr}{Cp:Addr}{f:Addr}
abbrev iE:Stmt:=top 9
def l5:List Str:=["thing"]
def mj:List Str:=["thing"]
theorem sq:FnScope l5 mj (ag iE):=⟨rfl,rfl,rfl,by decide+kernel,rfl,by decide+kernel,by decide+kernel⟩
theorem rR(B:Bl K mg base cv cA Cp)(T:bD K mg "is_whole" iE f):ai P w K mg base cv 1 "is_whole" 1 (bj):=
 aD (N:=l5) (ps:=mj) T sq (fun _ _ _ _ _ _ us hl=>match us,hl with | [_],_=>rfl) fun cu A outer s H E hr=>
  (aj (ay (p8 (jF rfl B.isinstance rfl (aa (ab (pv 0)) (aa (oO rfl B.int rfl) ae))) (ug (DM (jF rfl B.isinstance rfl (aa (ab (pv 0)) (aa (oO rfl B.bool rfl) ae))))))))
abbrev gy:Stmt:=top 10
def ke:List Str:=["thing"]
def kr:List Str:=["thing"]
theorem qm:FnScope ke kr (ag gy):=⟨rfl,rfl,rfl,by decide+kernel,rfl,by decide+kernel,by decide+kernel⟩
theorem pW(B:Bl K mg base cv cA Cp)(T:bD K mg "is_letter" gy f):ai P w K mg base cv 1 "is_letter" 1 (cw):=
 aD (N:=ke) (ps:=kr) T qm (fun _ _ _ _ _ _ us hl=>match us,hl with | [_],_=>rfl) fun cu A outer s H E hr=>
  (aj (ay (p8 (jF rfl B.isinstance rfl (aa (ab (pv 0)) (aa (oO rfl B.str rfl) ae))) (p8 (vk hr.units (bE rfl B.len (aa (ab (pv 0)) ae)) ar) (ug (DI (ab (pv 0)) (A9 rfl B.LETTERS (by decide))))))))
abbrev df:Stmt:=top 17
def c_:List Str:=["board","row"]
def gp:List Str:=["board","row"]
theorem kP:FnScope c_ gp (ag df):=⟨rfl,rfl,rfl,by decide+kernel,rfl,by decide+kernel,by decide+kernel⟩
theorem kM(B:Bl K mg base cv cA Cp)(T:bD K mg "cells_of_row" df f):ai P w K mg base cv 1 "cells_of_row" 2 (aO):=
 aD (N:=c_) (ps:=gp) T kP (fun _ _ _ _ _ _ us hl=>match us,hl with | [_,_],_=>rfl) fun cu A outer s H E hr=>
  (aj (ay (cR (tn:=["column"]) (n:=0) (bC (N:=c_) (osc:=(ag df)) rfl rfl (by decide+kernel)) rfl rfl (ez rfl B.range (aa (bE rfl B.len (aa (bu (ab (pv 0)) ar) ae)) ae)) (fun _ _ _ _ _ _ _=>cG (show List.Nodup (((["column"]:List Str))++cH ["column"] c_) by decide+kernel) rfl rfl) (fun _ _ _ _ _ _=>dg) (fun _ _ _ _ _ _=>(fM (aa (ab (pv 2)) (aa (ab (pv 0)) ae)))))))
abbrev gB:Stmt:=top 19
def kh:List Str:=["board","cell"]
def kz:List Str:=["board","cell"]
theorem qp:FnScope kh kz (ag gB):=⟨rfl,rfl,rfl,by decide+kernel,rfl,by decide+kernel,by decide+kernel⟩
theorem p0(B:Bl K mg base cv cA Cp)(T:bD K mg "letter_of" gB f):ai P w K mg base cv 1 "letter_of" 2 (b0):=
 aD (N:=kh) (ps:=kz) T qp (fun _ _ _ _ _ _ us hl=>match us,hl with | [_,_],_=>rfl) fun cu A outer s H E hr=>
  (aj (ay (yW (bu (ab (pv 0)) (bu (ab (pv 1)) ar)) (bu (ab (pv 1)) ar))))
abbrev iC:Stmt:=top 20
def lY:List Str:=["one","other","ways","down","along"]
def mf:List Str:=["one","other","ways"]
theorem gF:FnScope lY mf (ag iC):=⟨rfl,rfl,rfl,by decide+kernel,rfl,by decide+kernel,by decide+kernel⟩
theorem rO(B:Bl K mg base cv cA Cp)(T:bD K mg "are_next" iC f):ai P w K mg base cv 1 "are_next" 3 (cV):=
 aD (N:=lY) (ps:=mf) T gF (fun _ _ _ _ _ _ us hl=>match us,hl with | [_,_,_],_=>rfl) fun cu A outer s H E hr=>
  (af (a7 gF.nd rfl (by first | exact .inl rfl | exact .inr rfl) (yU rfl B.abs (aa (p_ (bu (ab (pv 0)) ar) (bu (ab (pv 1)) ar)) ae) rfl)) (af (a7 gF.nd rfl (by first | exact .inl rfl | exact .inr rfl) (yU rfl B.abs (aa (p_ (bu (ab (pv 0)) ar) (bu (ab (pv 1)) ar)) ae) rfl)) (af (bz (zl hr.units (ab (pv 2)) ar) (aj (ay (vk hr.units (cM (ab (pv 3)) (ab (pv 4))) ar))) a6) (aj (ay (vk hr.units (ue rfl rfl B.max rfl (aa (ab (pv 3)) (aa (ab (pv 4)) ae))) ar))))))
abbrev qk:Stmt:=top 22
def u_:List Str:=["things","found","thing"]
def vh:List Str:=["things"]
theorem mJ:FnScope u_ vh (ag qk):=⟨rfl,rfl,rfl,by decide+kernel,rfl,by decide+kernel,by decide+kernel⟩
theorem yO(B:Bl K mg base cv cA Cp)(T:bD K mg "keyed" qk f):ai P w K mg base cv 1 "keyed" 1 (iO):=
 aD (N:=u_) (ps:=vh) T mJ (fun _ _ _ _ _ _ us hl=>match us,hl with | [_],_=>rfl) fun cu A outer s H E hr=>
  (af (mz mJ.nd rfl (by first | exact .inl rfl | exact .inr rfl)) (af (dD (bU PassesOwn.never rfl (A_ (bx (ab (pv 0))) (y0 (ab (pv 0)))) (bc mJ.nd rfl (by first | exact .inl rfl | exact .inr rfl)) bM (bp (aj (mB hr.units (pv 1) (ab (pv 2)) dN))))) (aj (eO (i:=1) (ay (ab (pv 1)))))))
abbrev fQ:Stmt:=top 30
def iY:List Str:=["found","numbers","number","patch","cell"]
def i8:List Str:=["found"]
theorem cQ:FnScope iY i8 (ag fQ):=⟨rfl,rfl,rfl,by decide+kernel,rfl,by decide+kernel,by decide+kernel⟩
theorem nh(B:Bl K mg base cv cA Cp)(T:bD K mg "numbers_of" fQ f):ai P w K mg base cv 1 "numbers_of" 1 (dY):=
 aD (N:=iY) (ps:=i8) T cQ (fun _ _ _ _ _ _ us hl=>match us,hl with | [_],_=>rfl) fun cu A outer s H E hr=>
  (af (mz cQ.nd rfl (by first | exact .inl rfl | exact .inr rfl)) (af (dD (bU PassesOwn.never rfl (rX rfl B.enumerate (aa (ab (pv 0)) ae)) (ze rfl (jb (bc cQ.nd rfl (by first | exact .inl rfl | exact .inr rfl)) (jb (bc cQ.nd rfl (by first | exact .inl rfl | exact .inr rfl)) vv))) (vx (is:=[2,3])) (bp (aj (bU PassesOwn.never rfl (bx (ab (pv 3))) (bc cQ.nd rfl (by first | exact .inl rfl | exact .inr rfl)) bM (bp (aj (mB hr.units (pv 1) (ab (pv 4)) (ab (pv 2)))))))))) (aj (eO (i:=1) (ay (ab (pv 1)))))))
abbrev iF:Stmt:=top 37
def l6:List Str:=["_law_script","_law_k"]
def ml:List Str:=["_law_script","_law_k"]
theorem sr:FnScope l6 ml (ag iF):=⟨rfl,rfl,rfl,by decide+kernel,rfl,by decide+kernel,by decide+kernel⟩
theorem rS(B:Bl K mg base cv cA Cp)(T:bD K mg "_law_cell" iF f):ai P w K mg base cv 1 "_law_cell" 2 (ej):=
 aD (N:=l6) (ps:=ml) T sr (fun _ _ _ _ _ _ us hl=>match us,hl with | [_,_],_=>rfl) fun cu A outer s H E hr=>
  (af (bz (zl hr.units (ab (pv 0)) (gr ae)) (aj (ay (iA ar (ab (pv 1))))) a6) (aj (ay (cM (DK (ab (pv 0)) (jG (ab (pv 1)) (bE rfl B.len (aa (ab (pv 0)) ae)))) (iA ar (p9 (ab (pv 1)) (bE rfl B.len (aa (ab (pv 0)) ae))))))))
abbrev jf:Stmt:=top 11
def iV:List Str:=["thing"]
def rW:List Str:=["thing"]
theorem w4:FnScope iV rW (ag jf):=⟨rfl,rfl,rfl,by decide+kernel,rfl,by decide+kernel,by decide+kernel⟩
theorem wG(B:Bl K mg base cv cA Cp)(qM:ai P w K mg base cv 1 "is_letter" 1 cw)(T:bD K mg "is_row" jf f):ai P w K mg base cv 2 "is_row" 1 (ei):=
 aD (N:=iV) (ps:=rW) T w4 (fun _ _ _ _ _ _ us hl=>match us,hl with | [_],_=>rfl) fun cu A outer s H E hr=>
  (af (bz (PDW.t (mw (cS (cT (jF rfl B.isinstance rfl (aa (ab (pv 0)) (aa (oO rfl B.str rfl) ae))))) (ja (cS (zj me me ar (bE rfl B.len (aa (ab (pv 0)) ae)) (vn rfl B.MOST_COLUMNS)))))) (aj (ay dN)) a6) (aj (ay (uc rfl rfl B.all rfl (aa (cR (tn:=["sign"]) (n:=0) (bC (N:=iV) (osc:=(ag jf)) rfl rfl (by decide+kernel)) rfl rfl (Ba (ab (pv 0))) (fun _ _ _ _ _ _ _=>cG (show List.Nodup (((["sign"]:List Str))++cH ["sign"] iV) by decide+kernel) rfl rfl) (fun _ _ _ _ _ _=>dg) (fun _ _ _ _ _ _=>(aZ qM (hr.mono (by decide)) rfl cz (aa (ab (pv 0)) ae) rfl))) ae)))))
abbrev jT:Stmt:=top 13
def oB:List Str:=["board","thing"]
def oJ:List Str:=["board","thing"]
theorem uo:FnScope oB oJ (ag jT):=⟨rfl,rfl,rfl,by decide+kernel,rfl,by decide+kernel,by decide+kernel⟩
theorem t6(B:Bl K mg base cv cA Cp)(fC:ai P w K mg base cv 1 "is_whole" 1 bj)(T:bD K mg "is_cell" jT f):ai P w K mg base cv 2 "is_cell" 2 (gR):=
 aD (N:=oB) (ps:=oJ) T uo (fun _ _ _ _ _ _ us hl=>match us,hl with | [_,_],_=>rfl) fun cu A outer s H E hr=>
  (af (bz (PDW.t (mw (cS (cT (jF rfl B.isinstance rfl (aa (ab (pv 1)) (aa (oO rfl B.tuple rfl) ae))))) (ja (fW hr.units (bE rfl B.len (aa (ab (pv 1)) ae)) ar)))) (aj (ay dN)) a6) (af (bz (PDW.t (mw (cS (cT (aZ fC (hr.mono (by decide)) rfl a8 (aa (bu (ab (pv 1)) ar) ae) rfl))) (ja (cS (cT (aZ fC (hr.mono (by decide)) rfl a8 (aa (bu (ab (pv 1)) ar) ae) rfl)))))) (aj (ay dN)) a6) (aj (ay (p8 (yV me Cf ar (bu (ab (pv 1)) ar) (bE rfl B.len (aa (ab (pv 0)) ae))) (ug (yV me Cf ar (bu (ab (pv 1)) ar) (bE rfl B.len (aa (bu (ab (pv 0)) ar) ae)))))))))
abbrev gE:Stmt:=top 16
def kj:List Str:=["thing"]
def kB:List Str:=["thing"]
theorem qr:FnScope kj kB (ag gE):=⟨rfl,rfl,rfl,by decide+kernel,rfl,by decide+kernel,by decide+kernel⟩
theorem p4(B:Bl K mg base cv cA Cp)(fC:ai P w K mg base cv 1 "is_whole" 1 bj)(T:bD K mg "need_ways" gE f):ai P w K mg base cv 2 "need_ways" 1 (ba):=
 aD (N:=kj) (ps:=kB) T qr (fun _ _ _ _ _ _ us hl=>match us,hl with | [_],_=>rfl) fun cu A outer s H E hr=>
  (aj (bz (PDW.t (mw (cS (cT (aZ fC (hr.mono (by decide)) rfl a8 (aa (ab (pv 0)) ae) rfl))) (ja (wW (ab (pv 0)) (fM (aa ar (aa ar ae))))))) (aj jJ) a6))
abbrev gx:Stmt:=top 18
def kc:List Str:=["board","found","row"]
def kq:List Str:=["board"]
theorem fS:FnScope kc kq (ag gx):=⟨rfl,rfl,rfl,by decide+kernel,rfl,by decide+kernel,by decide+kernel⟩
theorem pV(B:Bl K mg base cv cA Cp)(d9:ai P w K mg base cv 1 "cells_of_row" 2 aO)(T:bD K mg "all_cells" gx f):ai P w K mg base cv 2 "all_cells" 1 (cZ):=
 aD (N:=kc) (ps:=kq) T fS (fun _ _ _ _ _ _ us hl=>match us,hl with | [_],_=>rfl) fun cu A outer s H E hr=>
  (af (jc fS.nd rfl (by first | exact .inl rfl | exact .inr rfl)) (af (dD (bU PassesOwn.never rfl (ez rfl B.range (aa (bE rfl B.len (aa (ab (pv 0)) ae)) ae)) (bc fS.nd rfl (by first | exact .inl rfl | exact .inr rfl)) bM (bp (aj (Bn (pv 1) (aZ d9 (hr.mono (by decide)) rfl cz (aa (ab (pv 0)) (aa (ab (pv 2)) ae)) rfl)))))) (aj (eO (i:=1) (ay (ab (pv 1)))))))
abbrev fO:Stmt:=top 21
def iX:List Str:=["board","cell","ways","found","row","column"]
def i7:List Str:=["board","cell","ways"]
theorem dE:FnScope iX i7 (ag fO):=⟨rfl,rfl,rfl,by decide+kernel,rfl,by decide+kernel,by decide+kernel⟩
theorem ng(B:Bl K mg base cv cA Cp)(sX:ai P w K mg base cv 1 "are_next" 3 cV)(T:bD K mg "next_cells" fO f):ai P w K mg base cv 2 "next_cells" 3 (cE):=
 aD (N:=iX) (ps:=i7) T dE (fun _ _ _ _ _ _ us hl=>match us,hl with | [_,_,_],_=>rfl) fun cu A outer s H E hr=>
  (af (jc dE.nd rfl (by first | exact .inl rfl | exact .inr rfl)) (af (dD (bU PassesOwn.never rfl (mv rfl B.range (aa (ue rfl rfl B.max rfl (aa (p_ (bu (ab (pv 1)) ar) ar) (aa ar ae))) (aa (yY rfl rfl B.min rfl (aa (cM (bu (ab (pv 1)) ar) ar) (aa (bE rfl B.len (aa (ab (pv 0)) ae)) ae))) ae))) (bc dE.nd rfl (by first | exact .inl rfl | exact .inr rfl)) bM (bp (aj (bU PassesOwn.never rfl (mv rfl B.range (aa (ue rfl rfl B.max rfl (aa (p_ (bu (ab (pv 1)) ar) ar) (aa ar ae))) (aa (yY rfl rfl B.min rfl (aa (cM (bu (ab (pv 1)) ar) ar) (aa (bE rfl B.len (aa (bu (ab (pv 0)) ar) ae)) ae))) ae))) (bc dE.nd rfl (by first | exact .inl rfl | exact .inr rfl)) bM (bp (aj (bz (cT (aZ sX (hr.mono (by decide)) rfl cz (aa (ab (pv 1)) (aa (fM (aa (ab (pv 4)) (aa (ab (pv 5)) ae))) (aa (ab (pv 2)) ae))) rfl)) (aj (kY (pv 3) (fM (aa (ab (pv 4)) (aa (ab (pv 5)) ae))))) a6)))))))) (aj (eO (i:=3) (ay (ab (pv 3)))))))
abbrev gz:Stmt:=top 38
def kf:List Str:=["_law_script","_law_k","_law_many","_law_cell_here"]
def kx:List Str:=["_law_script","_law_k","_law_many"]
theorem fT:FnScope kf kx (ag gz):=⟨rfl,rfl,rfl,by decide+kernel,rfl,by decide+kernel,by decide+kernel⟩
theorem pY(B:Bl K mg base cv cA Cp)(sZ:ai P w K mg base cv 1 "_law_cell" 2 ej)(T:bD K mg "_law_drawn" gz f):ai P w K mg base cv 2 "_law_drawn" 3 (aY):=
 aD (N:=kf) (ps:=kx) T fT (fun _ _ _ _ _ _ us hl=>match us,hl with | [_,_,_],_=>rfl) fun cu A outer s H E hr=>
  (af (a7 fT.nd rfl (by first | exact .inl rfl | exact .inr rfl) (jG (cM (iA (jG (aZ sZ (hr.mono (by decide)) rfl a8 (aa (ab (pv 0)) (aa (ab (pv 1)) ae)) rfl) ar) ar) (iA ar (cM (ab (pv 1)) ar))) ar)) (af (a7 fT.nd rfl (by first | exact .inl rfl | exact .inr rfl) (jG (cM (iA (ab (pv 3)) (ab (pv 3))) (p9 (ab (pv 3)) ar)) ar)) (aj (ay (jG (p9 (jG (cM (iA (ab (pv 3)) (ab (pv 3))) (p9 (ab (pv 3)) ar)) ar) ar) (ab (pv 2)))))))
abbrev eC:Stmt:=top 12
def dr:List Str:=["thing"]
def mi:List Str:=["thing"]
theorem so:FnScope dr mi (ag eC):=⟨rfl,rfl,rfl,by decide+kernel,rfl,by decide+kernel,by decide+kernel⟩
theorem rQ(B:Bl K mg base cv cA Cp)(xC:ai P w K mg base cv 2 "is_row" 1 ei)(T:bD K mg "is_board" eC f):ai P w K mg base cv 3 "is_board" 1 (fG):=
 aD (N:=dr) (ps:=mi) T so (fun _ _ _ _ _ _ us hl=>match us,hl with | [_],_=>rfl) fun cu A outer s H E hr=>
  (af (bz (PDW.t (mw (cS (cT (jF rfl B.isinstance rfl (aa (ab (pv 0)) (aa (oO rfl B.tuple rfl) ae))))) (ja (cS (zj me me ar (bE rfl B.len (aa (ab (pv 0)) ae)) (vn rfl B.MOST_ROWS)))))) (aj (ay dN)) a6) (af (bz (cS (cT (uc rfl rfl B.all rfl (aa (cR (tn:=["row"]) (n:=0) (bC (N:=dr) (osc:=(ag eC)) rfl rfl (by decide+kernel)) rfl rfl (qa (ab (pv 0))) (fun _ _ _ _ _ _ _=>cG (show List.Nodup (((["row"]:List Str))++cH ["row"] dr) by decide+kernel) rfl rfl) (fun _ _ _ _ _ _=>dg) (fun _ _ _ _ _ _=>(aZ xC (hr.mono (by decide)) rfl cz (aa (ab (pv 0)) ae) rfl))) ae)))) (aj (ay dN)) a6) (aj (ay (uc rfl rfl B.all rfl (aa (cR (tn:=["row"]) (n:=0) (bC (N:=dr) (osc:=(ag eC)) rfl rfl (by decide+kernel)) rfl rfl (qa (ab (pv 0))) (fun _ _ _ _ _ _ _=>cG (show List.Nodup (((["row"]:List Str))++cH ["row"] dr) by decide+kernel) rfl rfl) (fun _ _ _ _ _ _=>dg) (fun _ _ _ _ _ _=>(vk hr.units (bE rfl B.len (aa (ab (pv 0)) ae)) (bE rfl B.len (aa (bu (ab (pv 1)) ar) ae))))) ae))))))
abbrev gD:Stmt:=top 15
def ki:List Str:=["board","thing"]
def kA:List Str:=["board","thing"]
theorem qq:FnScope ki kA (ag gD):=⟨rfl,rfl,rfl,by decide+kernel,rfl,by decide+kernel,by decide+kernel⟩
theorem p3(B:Bl K mg base cv cA Cp)(vQ:ai P w K mg base cv 2 "is_cell" 2 gR)(T:bD K mg "need_cell" gD f):ai P w K mg base cv 3 "need_cell" 2 (bJ):=
 aD (N:=ki) (ps:=kA) T qq (fun _ _ _ _ _ _ us hl=>match us,hl with | [_,_],_=>rfl) fun cu A outer s H E hr=>
  (aj (bz (cS (cT (aZ vQ (hr.mono (by decide)) rfl a8 (aa (ab (pv 0)) (aa (ab (pv 1)) ae)) rfl))) (aj jJ) a6))
abbrev d4:Stmt:=top 27
def dZ:List Str:=["board","cell","ways","letter"]
def i5:List Str:=["board","cell","ways"]
theorem ig:FnScope dZ i5 (ag d4):=⟨rfl,rfl,rfl,by decide+kernel,rfl,by decide+kernel,by decide+kernel⟩
theorem m9(B:Bl K mg base cv cA Cp)(eI:ai P w K mg base cv 1 "letter_of" 2 b0)(pf:ai P w K mg base cv 2 "next_cells" 3 cE)(T:bD K mg "like_cells" d4 f):ai P w K mg base cv 3 "like_cells" 3 (b8):=
 aD (N:=dZ) (ps:=i5) T ig (fun _ _ _ _ _ _ us hl=>match us,hl with | [_,_,_],_=>rfl) fun cu A outer s H E hr=>
  (af (a7 ig.nd rfl (by first | exact .inl rfl | exact .inr rfl) (aZ eI (hr.mono (by decide)) rfl a8 (aa (ab (pv 0)) (aa (ab (pv 1)) ae)) rfl)) (aj (ay (cR (tn:=["near"]) (n:=0) (bC (N:=dZ) (osc:=(ag d4)) rfl rfl (by decide+kernel)) rfl rfl (bx (aZ pf (hr.mono (by decide)) rfl a8 (aa (ab (pv 0)) (aa (ab (pv 1)) (aa (ab (pv 2)) ae))) rfl)) (fun _ _ _ _ _ _ _=>cG (show List.Nodup (((["near"]:List Str))++cH ["near"] dZ) by decide+kernel) rfl rfl) (fun _ _ _ _ _ _=>(ji (zl hr.units (aZ eI (hr.mono (by decide)) rfl cz (aa (ab (pv 1)) (aa (ab (pv 0)) ae)) rfl) (ab (pv 4))))) (fun _ _ _ _ _ _=>(ab (pv 0)))))))
abbrev eS:Stmt:=top 39
def eN:List Str:=["_law_script","_law_at","_law_most","_law_rows","_law_wide","_law_alphabet","_law_found","_law_row","_law_signs"]
def ku:List Str:=["_law_script","_law_at","_law_most"]
theorem bP:FnScope eN ku (ag eS):=⟨rfl,rfl,rfl,by decide+kernel,rfl,by decide+kernel,by decide+kernel⟩
set_option maxHeartbeats 4000000 in
theorem pX(B:Bl K mg base cv cA Cp)(eG:ai P w K mg base cv 2 "_law_drawn" 3 aY)(T:bD K mg "_law_board" eS f):ai P w K mg base cv 3 "_law_board" 3 (dG):=
 aD (N:=eN) (ps:=ku) T bP (fun _ _ _ _ _ _ us hl=>match us,hl with | [_,_,_],_=>rfl) fun cu A outer s H E hr=>
  (af (a7 bP.nd rfl (by first | exact .inl rfl | exact .inr rfl) (cM ar (aZ eG (hr.mono (by decide)) rfl a8 (aa (ab (pv 0)) (aa (ab (pv 1)) (aa (ab (pv 2)) ae))) rfl))) (af (a7 bP.nd rfl (by first | exact .inl rfl | exact .inr rfl) (cM ar (aZ eG (hr.mono (by decide)) rfl a8 (aa (ab (pv 0)) (aa (cM (ab (pv 1)) ar) (aa (ab (pv 2)) ae))) rfl))) (af (a7 bP.nd rfl (by first | exact .inl rfl | exact .inr rfl) (eY (gr (aa iB (aa iB (aa iB (aa iB ae))))) (aZ eG (hr.mono (by decide)) rfl a8 (aa (ab (pv 0)) (aa (cM (ab (pv 1)) ar) (aa ar ae))) rfl))) (af (a7 bP.nd rfl (by first | exact .inl rfl | exact .inr rfl) (fM ae)) (af (dD (bU PassesOwn.never rfl (ez rfl B.range (aa (ab (pv 3)) ae)) (bc bP.nd rfl (by first | exact .inl rfl | exact .inr rfl)) bM (bp (af (rY (tn:=["_law_k"]) (n:=0) bP.nd rfl (by first | exact .inl rfl | exact .inr rfl) (bC (N:=eN) (osc:=(ag eS)) rfl rfl (by decide+kernel)) rfl rfl (ez rfl B.range (aa (ab (pv 4)) ae)) (fun _ _ _ _ _ _ _=>cG (show List.Nodup (((["_law_k"]:List Str))++cH ["_law_k"] eN) by decide+kernel) rfl rfl) (fun _ _ _ _ _ _=>dg) (fun _ _ _ _ _ _=>(yW (ab (pv 6)) (aZ eG (hr.mono (by decide)) rfl cz (aa (ab (pv 1)) (aa (cM (cM (cM (ab (pv 2)) ar) (iA ar (ab (pv 8)))) (ab (pv 0))) (aa (bE rfl B.len (aa (ab (pv 6)) ae)) ae))) rfl)))) (aj (a7 bP.nd rfl (by first | exact .inl rfl | exact .inr rfl) (vj (ab (pv 6)) (fM (aa (A7 iB (aa (ab (pv 8)) ae)) ae))))))))) (aj (ay (ab (pv 6)))))))))
abbrev fN:Stmt:=top 14
def iW:List Str:=["thing"]
def i6:List Str:=["thing"]
theorem nj:FnScope iW i6 (ag fN):=⟨rfl,rfl,rfl,by decide+kernel,rfl,by decide+kernel,by decide+kernel⟩
theorem m_(B:Bl K mg base cv cA Cp)(sY:ai P w K mg base cv 3 "is_board" 1 fG)(T:bD K mg "need_board" fN f):ai P w K mg base cv 4 "need_board" 1 (aI):=
 aD (N:=iW) (ps:=i6) T nj (fun _ _ _ _ _ _ us hl=>match us,hl with | [_],_=>rfl) fun cu A outer s H E hr=>
  (aj (bz (cS (cT (aZ sY (hr.mono (by decide)) rfl a8 (aa (ab (pv 0)) ae) rfl))) (aj jJ) a6))
abbrev fR:Stmt:=top 28
def iZ:List Str:=["board","start","ways","back","ring","further","cell","near"]
def i9:List Str:=["board","start","ways"]
theorem bS:FnScope iZ i9 (ag fR):=⟨rfl,rfl,rfl,by decide+kernel,rfl,by decide+kernel,by decide+kernel⟩
theorem ni(B:Bl K mg base cv cA Cp)(pe:ai P w K mg base cv 3 "like_cells" 3 b8)(T:bD K mg "steps_back" fR f):ai P w K mg base cv 4 "steps_back" 3 (aJ):=
 aD (N:=iZ) (ps:=i9) T bS (fun _ _ _ _ _ _ us hl=>match us,hl with | [_,_,_],_=>rfl) fun cu A outer s H E hr=>
  (af (zh bS.nd rfl (by first | exact .inl rfl | exact .inr rfl) (wO hr.units (ab (pv 1)) DL)) (af (a7 bS.nd rfl (by first | exact .inl rfl | exact .inr rfl) (gr (aa (ab (pv 1)) ae))) (af (dD (wV PassesOwn.never (cT (ab (pv 4))) (bp (af (jc bS.nd rfl (by first | exact .inl rfl | exact .inr rfl)) (af (bU PassesOwn.never rfl (bx (ab (pv 4))) (bc bS.nd rfl (by first | exact .inl rfl | exact .inr rfl)) bM (bp (aj (bU PassesOwn.never rfl (bx (aZ pe (hr.mono (by decide)) rfl cz (aa (ab (pv 0)) (aa (ab (pv 6)) (aa (ab (pv 2)) ae))) rfl)) (bc bS.nd rfl (by first | exact .inl rfl | exact .inr rfl)) bM (bp (aj (bz (y8 (oP hr.units (ab (pv 7)) (ab (pv 3)))) (af (mB hr.units (pv 3) (ab (pv 7)) (ab (pv 6))) (aj (kY (pv 5) (ab (pv 7))))) a6))))))) (aj (eO (i:=5) (a7 bS.nd rfl (by first | exact .inl rfl | exact .inr rfl) (ab (pv 5)))))))))) (aj (eO (i:=3) (ay (ab (pv 3))))))))
abbrev qj:Stmt:=top 23
def u9:List Str:=["board"]
def vg:List Str:=["board"]
theorem zJ:FnScope u9 vg (ag qj):=⟨rfl,rfl,rfl,by decide+kernel,rfl,by decide+kernel,by decide+kernel⟩
theorem yN(B:Bl K mg base cv cA Cp)(aQ:ai P w K mg base cv 4 "need_board" 1 aI)(f6:ai P w K mg base cv 2 "all_cells" 1 cZ)(T:bD K mg "cells" qj f):ai P w K mg base cv 5 "cells" 1 (eK):=
 aD (N:=u9) (ps:=vg) T zJ (fun _ _ _ _ _ _ us hl=>match us,hl with | [_],_=>rfl) fun cu A outer s H E hr=>
  (af (bL (aZ aQ (hr.mono (by decide)) rfl a8 (aa (ab (pv 0)) ae) rfl)) (aj (ay (aZ f6 (hr.mono (by decide)) rfl a8 (aa (ab (pv 0)) ae) rfl))))
abbrev gA:Stmt:=top 24
def kg:List Str:=["board","cell"]
def ky:List Str:=["board","cell"]
theorem qo:FnScope kg ky (ag gA):=⟨rfl,rfl,rfl,by decide+kernel,rfl,by decide+kernel,by decide+kernel⟩
theorem pZ(B:Bl K mg base cv cA Cp)(aQ:ai P w K mg base cv 4 "need_board" 1 aI)(cX:ai P w K mg base cv 3 "need_cell" 2 bJ)(eI:ai P w K mg base cv 1 "letter_of" 2 b0)(T:bD K mg "letter_at" gA f):ai P w K mg base cv 5 "letter_at" 2 (bZ):=
 aD (N:=kg) (ps:=ky) T qo (fun _ _ _ _ _ _ us hl=>match us,hl with | [_,_],_=>rfl) fun cu A outer s H E hr=>
  (af (bL (aZ aQ (hr.mono (by decide)) rfl a8 (aa (ab (pv 0)) ae) rfl)) (af (bL (aZ cX (hr.mono (by decide)) rfl a8 (aa (ab (pv 0)) (aa (ab (pv 1)) ae)) rfl)) (aj (ay (aZ eI (hr.mono (by decide)) rfl a8 (aa (ab (pv 0)) (aa (ab (pv 1)) ae)) rfl)))))
abbrev dw:Stmt:=top 26
def fj:List Str:=["board","ways","one","other"]
def fm:List Str:=["board","ways","one","other"]
theorem jg:FnScope fj fm (ag dw):=⟨rfl,rfl,rfl,by decide+kernel,rfl,by decide+kernel,by decide+kernel⟩
theorem i3(B:Bl K mg base cv cA Cp)(aQ:ai P w K mg base cv 4 "need_board" 1 aI)(bG:ai P w K mg base cv 2 "need_ways" 1 ba)(cX:ai P w K mg base cv 3 "need_cell" 2 bJ)(T:bD K mg "need_two_cells" dw f):ai P w K mg base cv 5 "need_two_cells" 4 (cC):=
 aD (N:=fj) (ps:=fm) T jg (fun _ _ _ _ _ _ us hl=>match us,hl with | [_,_,_,_],_=>rfl) fun cu A outer s H E hr=>
  (af (bL (aZ aQ (hr.mono (by decide)) rfl a8 (aa (ab (pv 0)) ae) rfl)) (af (bL (aZ bG (hr.mono (by decide)) rfl a8 (aa (ab (pv 1)) ae) rfl)) (af (bL (aZ cX (hr.mono (by decide)) rfl a8 (aa (ab (pv 0)) (aa (ab (pv 2)) ae)) rfl)) (aj (bL (aZ cX (hr.mono (by decide)) rfl a8 (aa (ab (pv 0)) (aa (ab (pv 3)) ae)) rfl))))))
abbrev e8:Stmt:=top 29
def hJ:List Str:=["board","ways","found","seen","cell","patch"]
def hZ:List Str:=["board","ways"]
theorem cB:FnScope hJ hZ (ag e8):=⟨rfl,rfl,rfl,by decide+kernel,rfl,by decide+kernel,by decide+kernel⟩
theorem md(B:Bl K mg base cv cA Cp)(f6:ai P w K mg base cv 2 "all_cells" 1 cZ)(c5:ai P w K mg base cv 4 "steps_back" 3 aJ)(Ad:ai P w K mg base cv 1 "keyed" 1 iO)(T:bD K mg "all_patches" e8 f):ai P w K mg base cv 5 "all_patches" 2 (bA):=
 aD (N:=hJ) (ps:=hZ) T cB (fun _ _ _ _ _ _ us hl=>match us,hl with | [_,_],_=>rfl) fun cu A outer s H E hr=>
  (af (jc cB.nd rfl (by first | exact .inl rfl | exact .inr rfl)) (af (mz cB.nd rfl (by first | exact .inl rfl | exact .inr rfl)) (af (dD (bU PassesOwn.never rfl (bx (aZ f6 (hr.mono (by decide)) rfl cz (aa (ab (pv 0)) ae) rfl)) (bc cB.nd rfl (by first | exact .inl rfl | exact .inr rfl)) bM (bp (aj (bz (y8 (oP hr.units (ab (pv 4)) (ab (pv 3)))) (af (a7 cB.nd rfl (by first | exact .inl rfl | exact .inr rfl) (vq rfl rfl B.sorted rfl (aa (aZ c5 (hr.mono (by decide)) rfl cz (aa (ab (pv 0)) (aa (ab (pv 4)) (aa (ab (pv 1)) ae))) rfl) ae))) (af (kY (pv 2) (ab (pv 5))) (aj (Bo hr.units (pv 3) (aZ Ad (hr.mono (by decide)) rfl cz (aa (ab (pv 5)) ae) rfl) ⟨rfl,rfl,rfl,rfl⟩)))) a6))))) (aj (eO (i:=2) (ay (ab (pv 2))))))))
abbrev iG:Stmt:=top 31
def l7:List Str:=["board","cell","ways"]
def mn:List Str:=["board","cell","ways"]
theorem su:FnScope l7 mn (ag iG):=⟨rfl,rfl,rfl,by decide+kernel,rfl,by decide+kernel,by decide+kernel⟩
theorem rU(B:Bl K mg base cv cA Cp)(aQ:ai P w K mg base cv 4 "need_board" 1 aI)(cX:ai P w K mg base cv 3 "need_cell" 2 bJ)(bG:ai P w K mg base cv 2 "need_ways" 1 ba)(c5:ai P w K mg base cv 4 "steps_back" 3 aJ)(T:bD K mg "patch_of" iG f):ai P w K mg base cv 5 "patch_of" 3 (dm):=
 aD (N:=l7) (ps:=mn) T su (fun _ _ _ _ _ _ us hl=>match us,hl with | [_,_,_],_=>rfl) fun cu A outer s H E hr=>
  (af (bL (aZ aQ (hr.mono (by decide)) rfl a8 (aa (ab (pv 0)) ae) rfl)) (af (bL (aZ cX (hr.mono (by decide)) rfl a8 (aa (ab (pv 0)) (aa (ab (pv 1)) ae)) rfl)) (af (bL (aZ bG (hr.mono (by decide)) rfl a8 (aa (ab (pv 2)) ae) rfl)) (aj (ay (vq rfl rfl B.sorted rfl (aa (aZ c5 (hr.mono (by decide)) rfl a8 (aa (ab (pv 0)) (aa (ab (pv 1)) (aa (ab (pv 2)) ae))) rfl) ae)))))))
abbrev jU:Stmt:=top 32
def oC:List Str:=["board","ways"]
def oK:List Str:=["board","ways"]
theorem uq:FnScope oC oK (ag jU):=⟨rfl,rfl,rfl,by decide+kernel,rfl,by decide+kernel,by decide+kernel⟩
theorem t7(B:Bl K mg base cv cA Cp)(aQ:ai P w K mg base cv 4 "need_board" 1 aI)(bG:ai P w K mg base cv 2 "need_ways" 1 ba)(cN:ai P w K mg base cv 5 "all_patches" 2 bA)(T:bD K mg "patches" jU f):ai P w K mg base cv 6 "patches" 2 (br):=
 aD (N:=oC) (ps:=oK) T uq (fun _ _ _ _ _ _ us hl=>match us,hl with | [_,_],_=>rfl) fun cu A outer s H E hr=>
  (af (bL (aZ aQ (hr.mono (by decide)) rfl a8 (aa (ab (pv 0)) ae) rfl)) (af (bL (aZ bG (hr.mono (by decide)) rfl a8 (aa (ab (pv 1)) ae) rfl)) (aj (ay (aZ cN (hr.mono (by decide)) rfl a8 (aa (ab (pv 0)) (aa (ab (pv 1)) ae)) rfl)))))
abbrev iD:Stmt:=top 33
def lZ:List Str:=["board","ways"]
def mh:List Str:=["board","ways"]
theorem sm:FnScope lZ mh (ag iD):=⟨rfl,rfl,rfl,by decide+kernel,rfl,by decide+kernel,by decide+kernel⟩
theorem rP(B:Bl K mg base cv cA Cp)(aQ:ai P w K mg base cv 4 "need_board" 1 aI)(bG:ai P w K mg base cv 2 "need_ways" 1 ba)(cN:ai P w K mg base cv 5 "all_patches" 2 bA)(T:bD K mg "how_many" iD f):ai P w K mg base cv 6 "how_many" 2 (bh):=
 aD (N:=lZ) (ps:=mh) T sm (fun _ _ _ _ _ _ us hl=>match us,hl with | [_,_],_=>rfl) fun cu A outer s H E hr=>
  (af (bL (aZ aQ (hr.mono (by decide)) rfl a8 (aa (ab (pv 0)) ae) rfl)) (af (bL (aZ bG (hr.mono (by decide)) rfl a8 (aa (ab (pv 1)) ae) rfl)) (aj (ay (bE rfl B.len (aa (aZ cN (hr.mono (by decide)) rfl a8 (aa (ab (pv 0)) (aa (ab (pv 1)) ae)) rfl) ae))))))
abbrev fP:Stmt:=top 34
def fK:List Str:=["board","ways","numbers","told","row"]
def mm:List Str:=["board","ways"]
theorem eT:FnScope fK mm (ag fP):=⟨rfl,rfl,rfl,by decide+kernel,rfl,by decide+kernel,by decide+kernel⟩
theorem rT(B:Bl K mg base cv cA Cp)(aQ:ai P w K mg base cv 4 "need_board" 1 aI)(bG:ai P w K mg base cv 2 "need_ways" 1 ba)(ph:ai P w K mg base cv 1 "numbers_of" 1 dY)(cN:ai P w K mg base cv 5 "all_patches" 2 bA)(d9:ai P w K mg base cv 1 "cells_of_row" 2 aO)(T:bD K mg "numbered" fP f):ai P w K mg base cv 6 "numbered" 2 (dj):=
 aD (N:=fK) (ps:=mm) T eT (fun _ _ _ _ _ _ us hl=>match us,hl with | [_,_],_=>rfl) fun cu A outer s H E hr=>
  (af (bL (aZ aQ (hr.mono (by decide)) rfl a8 (aa (ab (pv 0)) ae) rfl)) (af (bL (aZ bG (hr.mono (by decide)) rfl a8 (aa (ab (pv 1)) ae) rfl)) (af (a7 eT.nd rfl (by first | exact .inl rfl | exact .inr rfl) (aZ ph (hr.mono (by decide)) rfl a8 (aa (aZ cN (hr.mono (by decide)) rfl a8 (aa (ab (pv 0)) (aa (ab (pv 1)) ae)) rfl) ae) rfl)) (af (jc eT.nd rfl (by first | exact .inl rfl | exact .inr rfl)) (af (dD (bU PassesOwn.never rfl (ez rfl B.range (aa (bE rfl B.len (aa (ab (pv 0)) ae)) ae)) (bc eT.nd rfl (by first | exact .inl rfl | exact .inr rfl)) bM (bp (aj (kY (pv 3) (cR (tn:=["cell"]) (n:=0) (bC (N:=fK) (osc:=(ag fP)) rfl rfl (by decide+kernel)) rfl rfl (bx (aZ d9 (hr.mono (by decide)) rfl cz (aa (ab (pv 0)) (aa (ab (pv 4)) ae)) rfl)) (fun _ _ _ _ _ _ _=>cG (show List.Nodup (((["cell"]:List Str))++cH ["cell"] fK) by decide+kernel) rfl rfl) (fun _ _ _ _ _ _=>dg) (fun _ _ _ _ _ _=>(DJ hr.units (ab (pv 3)) (ab (pv 0)))))))))) (aj (eO (i:=3) (ay (ab (pv 3))))))))))
abbrev jS:Stmt:=top 35
def oA:List Str:=["board","ways","one","other"]
def oI:List Str:=["board","ways","one","other"]
theorem um:FnScope oA oI (ag jS):=⟨rfl,rfl,rfl,by decide+kernel,rfl,by decide+kernel,by decide+kernel⟩
theorem t5(B:Bl K mg base cv cA Cp)(jt:ai P w K mg base cv 5 "need_two_cells" 4 cC)(c5:ai P w K mg base cv 4 "steps_back" 3 aJ)(T:bD K mg "are_one" jS f):ai P w K mg base cv 6 "are_one" 4 (d5):=
 aD (N:=oA) (ps:=oI) T um (fun _ _ _ _ _ _ us hl=>match us,hl with | [_,_,_,_],_=>rfl) fun cu A outer s H E hr=>
  (af (bL (aZ jt (hr.mono (by decide)) rfl a8 (aa (ab (pv 0)) (aa (ab (pv 1)) (aa (ab (pv 2)) (aa (ab (pv 3)) ae)))) rfl)) (aj (ay (DH hr.units (ab (pv 3)) (aZ c5 (hr.mono (by decide)) rfl a8 (aa (ab (pv 0)) (aa (ab (pv 2)) (aa (ab (pv 1)) ae))) rfl)))))
abbrev aE:Stmt:=top 40
def aR:List Str:=["_law_script","_law_board_here","_law_ways","_law_some","_law_rows","_law_whole","_law_number","_law_patch","_law_cell_here","_law_met","_law_longer","_law_wide"]
def jE:List Str:=["_law_script"]
theorem aP:FnScope aR jE (ag aE):=⟨rfl,rfl,rfl,by decide+kernel,rfl,by decide+kernel,by decide+kernel⟩
set_option maxHeartbeats 4000000 in
theorem qu(B:Bl K mg base cv cA Cp)(f7:ai P w K mg base cv 3 "_law_board" 3 dG){cu:Value}{A:Around}{outer:List Env}{s:Shared}{H:Hp}{E:XK}(hr:Room 6 (A.deeper (envOfC "law" (ag aE) s.heap.objs.size f cu))):
 Box (iI (fF (nv P w cv) P w K mg base aR "law" (ag aE) f cu A outer s H E) (fun n H'=>E (cv n) none H') ((bI aE).getD 0 (.Pass ⟨0,0,0,0⟩)) kF):=
 ⟨(a7 aP.nd rfl (by first | exact .inl rfl | exact .inr rfl) (aZ f7 (hr.mono (by decide)) rfl a8 (aa (ab (pv 0)) (aa ar (aa ar ae))) rfl))⟩
set_option maxHeartbeats 4000000 in
theorem qw(B:Bl K mg base cv cA Cp)(di:ai P w K mg base cv 6 "patches" 2 br)(ik:ai P w K mg base cv 6 "numbered" 2 dj)(kQ:ai P w K mg base cv 5 "cells" 1 eK)(b6:ai P w K mg base cv 6 "how_many" 2 bh)(il:ai P w K mg base cv 5 "patch_of" 3 dm)(js:ai P w K mg base cv 6 "are_one" 4 d5)(f9:ai P w K mg base cv 5 "letter_at" 2 bZ){cu:Value}{A:Around}{outer:List Env}{s:Shared}{H:Hp}{E:XK}(hr:Room 6 (A.deeper (envOfC "law" (ag aE) s.heap.objs.size f cu))):
 Box (iI (fF (nv P w cv) P w K mg base aR "law" (ag aE) f cu A outer s H E) (fun n H'=>E (cv n) none H') ((bI aE).getD 1 (.Pass ⟨0,0,0,0⟩)) kG):=
 ⟨(dD (bU PassesOwn.never rfl (qa (fM (aa ar (aa ar ae)))) (bc aP.nd rfl (by first | exact .inl rfl | exact .inr rfl)) bM (bp (af (a7 aP.nd rfl (by first | exact .inl rfl | exact .inr rfl) (aZ di (hr.mono (by decide)) rfl cz (aa (ab (pv 1)) (aa (ab (pv 2)) ae)) rfl)) (af (a7 aP.nd rfl (by first | exact .inl rfl | exact .inr rfl) (aZ ik (hr.mono (by decide)) rfl cz (aa (ab (pv 1)) (aa (ab (pv 2)) ae)) rfl)) (af (bz (fW hr.units (bE rfl B.len (aa (ab (pv 3)) ae)) (aZ b6 (hr.mono (by decide)) rfl cz (aa (ab (pv 1)) (aa (ab (pv 2)) ae)) rfl)) (aj (ay dN)) a6) (af (bz (fW hr.units (cR (tn:=["_law_patch"]) (n:=0) (bC (N:=aR) (osc:=(ag aE)) rfl rfl (by decide+kernel)) rfl rfl (bx (ab (pv 3))) (fun _ _ _ _ _ _ _=>cG (show List.Nodup (((["_law_patch"]:List Str))++cH ["_law_patch"] aR) by decide+kernel) rfl rfl) (fun _ _ _ _ _ _=>dg) (fun _ _ _ _ _ _=>(eY (ab (pv 0)) ar))) (yZ rfl B.sorted rfl (aa (cR (tn:=["_law_patch"]) (n:=0) (bC (N:=aR) (osc:=(ag aE)) rfl rfl (by decide+kernel)) rfl rfl (bx (ab (pv 3))) (fun _ _ _ _ _ _ _=>cG (show List.Nodup (((["_law_patch"]:List Str))++cH ["_law_patch"] aR) by decide+kernel) rfl rfl) (fun _ _ _ _ _ _=>dg) (fun _ _ _ _ _ _=>(eY (ab (pv 0)) ar))) ae))) (aj (ay dN)) a6) (af (a7 aP.nd rfl (by first | exact .inl rfl | exact .inr rfl) (gr ae)) (af (bU PassesOwn.never rfl (rX rfl B.enumerate (aa (ab (pv 3)) ae)) (ze rfl (jb (bc aP.nd rfl (by first | exact .inl rfl | exact .inr rfl)) (jb (bc aP.nd rfl (by first | exact .inl rfl | exact .inr rfl)) vv))) (vx (is:=[6,7])) (bp (af (a7 aP.nd rfl (by first | exact .inl rfl | exact .inr rfl) (vi (ab (pv 5)) (ab (pv 7)))) (af (bz (fW hr.units (cR (tn:=["_law_cell_here"]) (n:=0) (bC (N:=aR) (osc:=(ag aE)) rfl rfl (by decide+kernel)) rfl rfl (bx (ab (pv 7))) (fun _ _ _ _ _ _ _=>cG (show List.Nodup (((["_law_cell_here"]:List Str))++cH ["_law_cell_here"] aR) by decide+kernel) rfl rfl) (fun _ _ _ _ _ _=>(ji (fW hr.units (eY (eY (ab (pv 5)) (bu (ab (pv 0)) ar)) (bu (ab (pv 0)) ar)) (ab (pv 7))))) (fun _ _ _ _ _ _=>(ab (pv 0)))) (gr ae)) (aj (ay dN)) a6) (af (bz (fW hr.units (ud rfl rfl B.len rfl B.set rfl rfl (cR (tn:=["_law_cell_here"]) (n:=0) (bC (N:=aR) (osc:=(ag aE)) rfl rfl (by decide+kernel)) rfl rfl (bx (ab (pv 7))) (fun _ _ _ _ _ _ _=>cG (show List.Nodup (((["_law_cell_here"]:List Str))++cH ["_law_cell_here"] aR) by decide+kernel) rfl rfl) (fun _ _ _ _ _ _=>dg) (fun _ _ _ _ _ _=>(aZ f9 (hr.mono (by decide)) rfl cz (aa (ab (pv 2)) (aa (ab (pv 0)) ae)) rfl)))) ar) (aj (ay dN)) a6) (aj (bU PassesOwn.never rfl (bx (F0 (ab (pv 7)) y6 (y7 ar))) (bc aP.nd rfl (by first | exact .inl rfl | exact .inr rfl)) bM (bp (af (bz (fW hr.units (aZ il (hr.mono (by decide)) rfl cz (aa (ab (pv 1)) (aa (ab (pv 8)) (aa (ab (pv 2)) ae))) rfl) (ab (pv 7))) (aj (ay dN)) a6) (aj (bz (cS (cT (aZ js (hr.mono (by decide)) rfl cz (aa (ab (pv 1)) (aa (ab (pv 2)) (aa (ab (pv 8)) (aa (eY (ab (pv 7)) ar) ae)))) rfl))) (aj (ay dN)) a6))))))))))) (af (bz (fW hr.units (yZ rfl B.sorted rfl (aa (ab (pv 5)) ae)) (aZ kQ (hr.mono (by decide)) rfl cz (aa (ab (pv 1)) ae) rfl)) (aj (ay dN)) a6) (af (a7 aP.nd rfl (by first | exact .inl rfl | exact .inr rfl) (gr ae)) (af (vw (bU PassesOwn.never rfl (bx (aZ kQ (hr.mono (by decide)) rfl cz (aa (ab (pv 1)) ae) rfl)) (bc aP.nd rfl (by first | exact .inl rfl | exact .inr rfl)) bM (bp (af (a7 aP.nd rfl (by first | exact .inl rfl | exact .inr rfl) (eY (eY (ab (pv 4)) (bu (ab (pv 8)) ar)) (bu (ab (pv 8)) ar))) (aj (a7 aP.nd rfl (by first | exact .inl rfl | exact .inr rfl) (vi (ab (pv 9)) (DN (gr (aa (ab (pv 6)) ae)) (A6 rfl B.int rfl (aa (uf (ab (pv 6)) (ab (pv 9))) ae)))))))))) (af (bz (fW hr.units (ab (pv 9)) (yX rfl rfl B.list rfl B.range rfl rfl (bE rfl B.len (aa (ab (pv 3)) ae)))) (aj (ay dN)) a6) (af (a7 aP.nd rfl (by first | exact .inl rfl | exact .inr rfl) (vj (ab (pv 1)) (fM (aa (vp iB (bE rfl B.len (aa (bu (ab (pv 1)) ar) ae))) ae)))) (af (bz (fW hr.units (aZ b6 (hr.mono (by decide)) rfl cz (aa (ab (pv 10)) (aa (ab (pv 2)) ae)) rfl) (cM (bE rfl B.len (aa (ab (pv 3)) ae)) ar)) (aj (ay dN)) a6) (aj (bz (fW hr.units (aZ b6 (hr.mono (by decide)) rfl cz (aa (A8 (fM (aa (vp iB (bE rfl B.len (aa (bu (ab (pv 1)) ar) ae))) ae)) (bE rfl B.len (aa (ab (pv 1)) ae))) (aa (ab (pv 2)) ae)) rfl) ar) (aj (ay dN)) a6)))))))))))))))))⟩
set_option maxHeartbeats 4000000 in
theorem qx(B:Bl K mg base cv cA Cp)(di:ai P w K mg base cv 6 "patches" 2 br){cu:Value}{A:Around}{outer:List Env}{s:Shared}{H:Hp}{E:XK}(hr:Room 6 (A.deeper (envOfC "law" (ag aE) s.heap.objs.size f cu))):
 Box (iI (fF (nv P w cv) P w K mg base aR "law" (ag aE) f cu A outer s H E) (fun n H'=>E (cv n) none H') ((bI aE).getD 2 (.Pass ⟨0,0,0,0⟩)) kH):=
 ⟨(vw (dD (bU PassesOwn.never rfl (bx (aZ di (hr.mono (by decide)) rfl cz (aa (ab (pv 1)) (aa ar ae)) rfl)) (bc aP.nd rfl (by first | exact .inl rfl | exact .inr rfl)) bM (bp (af (a7 aP.nd rfl (by first | exact .inl rfl | exact .inr rfl) (eY (cR (tn:=["_law_one"]) (n:=0) (bC (N:=aR) (osc:=(ag aE)) rfl rfl (by decide+kernel)) rfl rfl (bx (aZ di (hr.mono (by decide)) rfl cz (aa (ab (pv 1)) (aa ar ae)) rfl)) (fun _ _ _ _ _ _ _=>cG (show List.Nodup (((["_law_one"]:List Str))++cH ["_law_one"] aR) by decide+kernel) rfl rfl) (fun _ _ _ _ _ _=>(ji (D5 hr.units (eY (ab (pv 8)) ar) (ab (pv 0))))) (fun _ _ _ _ _ _=>(ab (pv 0)))) ar)) (aj (bz (fW hr.units (cR (tn:=["_law_cell_here"]) (n:=0) (bC (N:=aR) (osc:=(ag aE)) rfl rfl (by decide+kernel)) rfl rfl (bx (ab (pv 7))) (fun _ _ _ _ _ _ _=>cG (show List.Nodup (((["_law_cell_here"]:List Str))++cH ["_law_cell_here"] aR) by decide+kernel) rfl rfl) (fun _ _ _ _ _ _=>(ji (wX hr.units (ab (pv 0)) (ab (pv 12))))) (fun _ _ _ _ _ _=>(ab (pv 0)))) (gr ae)) (aj (ay dN)) a6)))))))⟩
set_option maxHeartbeats 4000000 in
theorem qy(B:Bl K mg base cv cA Cp)(b6:ai P w K mg base cv 6 "how_many" 2 bh){cu:Value}{A:Around}{outer:List Env}{s:Shared}{H:Hp}{E:XK}(hr:Room 6 (A.deeper (envOfC "law" (ag aE) s.heap.objs.size f cu))):
 Box (iI (fF (nv P w cv) P w K mg base aR "law" (ag aE) f cu A outer s H E) (fun n H'=>E (cv n) none H') ((bI aE).getD 3 (.Pass ⟨0,0,0,0⟩)) kI):=
 ⟨(ay (FZ (aZ b6 (hr.mono (by decide)) rfl a8 (aa (ab (pv 1)) (aa ar ae)) rfl) (aZ b6 (hr.mono (by decide)) rfl a8 (aa (ab (pv 1)) (aa ar ae)) rfl)))⟩
set_option maxHeartbeats 4000000 in
theorem rN{fd:FuncData}(B:Bl K mg base cv cA Cp)(f7:ai P w K mg base cv 3 "_law_board" 3 dG)(di:ai P w K mg base cv 6 "patches" 2 br)(ik:ai P w K mg base cv 6 "numbered" 2 dj)(kQ:ai P w K mg base cv 5 "cells" 1 eK)(b6:ai P w K mg base cv 6 "how_many" 2 bh)(il:ai P w K mg base cv 5 "patch_of" 3 dm)(js:ai P w K mg base cv 6 "are_one" 4 d5)(f9:ai P w K mg base cv 5 "letter_at" 2 bZ)(Fn:Fun K "law" "law" aE f fd):FnOk P w K mg base (nv P w cv) 7 f fd jE (EB K cv 1 gS):=
 E3 (N:=aR) (ps:=jE) (τ:=j0) Fn aP fun cu A outer s H E hr=>by
  obtain⟨L1⟩:Box (PSDs (fF (nv P w cv) P w K mg base aR "law" (ag aE) f cu A outer s H E) (fun n H'=>E (cv n) none H') (bI aE) j0):=(sW (qu B f7 hr) (sW (qw B di ik kQ b6 il js f9 hr) (sW (qx B di hr) (Cy (qy B b6 hr)))))
  assumption
end
end K1
namespace K1
open PySem L2 L3
theorem yA{ds:List D}(h:ds.length≤lim):cO ds=M.ret (.lst ds):=if_pos h
theorem cW:lim=4096:=rfl
theorem d8{α:Type}{xs:List α}{i:Nat}{x:α}(h:xs[i]? =some x):L2.atI xs (i:Int)=some x:=by
 obtain⟨hi,e⟩:=List.getElem?_eq_some_iff.mp h
 unfold L2.atI Aa
 rw[if_pos (Int.natCast_nonneg i),if_pos (by exact Int.ofNat_lt.mpr hi)]
 exact h
theorem ao{m:Nat}{g:List D→M D}{δs:DA}{ρ:a5}{ds:List D}(h:δs ρ=M.ret ds)(hl:ds.length=m):ak m g δs ρ=g ds:=by
 unfold ak
 rw[h]
 exact if_pos hl
theorem bg{a:DE}{r:DA}{ρ:a5}{x:D}{xs:List D}(h1:a ρ=M.ret x)(h2:r ρ=M.ret xs):aC a r ρ=M.ret (x::xs):=by
 unfold aC
 rw[h1,aq,h2]
 rfl
theorem aL{g:D→D→M D}{a b:DE}{ρ:a5}{x y:D}(h1:a ρ=M.ret x)(h2:b ρ=M.ret y):d2 g a b ρ=g x y:=by
 unfold d2
 rw[h1,aq,h2]
 rfl
theorem cK{g:List D→M D}{a:DA}{ρ:a5}{xs:List D}(h:a ρ=M.ret xs):dA g a ρ=g xs:=by
 unfold dA
 rw[h]
 rfl
theorem fb{i j:Int}(h:0<j):iQ (.int i) (.int j)=M.ret (.int (i % j)):=by
 show (if decide (0<j)=true then _ else _)=_
 rw[if_pos (decide_eq_true h)]
theorem iP{i j:Int}(h:0<j)(h2:j<1073741824):m6 (.int i) (.int j)=M.ret (.int (i / j)):=by
 show (if decide (0<j∧j<1073741824)=true then _ else _)=_
 rw[if_pos (decide_eq_true ⟨h,h2⟩)]
theorem fc{i j:Int}(h:(-(2 ^ 64)<i∧i<2 ^ 64)∨(-(2 ^ 64)<j∧j<2 ^ 64)):gc (.int i) (.int j)=M.ret (.int (i*j)):=by
 show (if decide _=true then _ else _)=_
 rw[if_pos (decide_eq_true h)]
theorem gb{i j:Int}:c6 (.int i) (.int j)=M.ret (.int (i+j)):=rfl
theorem xG(ns:List Int)(hl:ns.length≤63)(k:Nat):∃v,ej [.scr ns, .int (k:Int)]=M.ret (.int v):=by
 cases ns with
 |nil=>
  refine⟨7*(k:Int),?_⟩
  rfl
 |cons n r=>
  have hp:0<(n::r).length:=Nat.succ_pos _
  generalize e:(n::r)=ns at*
  have he:jq 6 (.scr ns) (.lst [])=some false:=by subst e;rfl
  obtain⟨y,hy⟩:∃y,ns[k % ns.length]? =some y:=⟨_,List.getElem?_eq_getElem (Nat.mod_lt _ hp)⟩
  have JS:(0:Int)<(ns.length:Int):=by omega
  have h1:iQ (.int (k:Int)) (.int (ns.length:Int))=M.ret (.int ((k % ns.length:Nat):Int)):=fb JS
  have h2:m6 (.int (k:Int)) (.int (ns.length:Int))=M.ret (.int ((k:Int) / (ns.length:Int))):=iP JS (by omega)
  have h3:ya (.scr ns) (.int ((k % ns.length:Nat):Int))=M.ret (.int y):=by
   show (match L2.atI ns ((k % ns.length:Nat):Int) with | some n=>M.ret (D.int n) | none=>M.stuck)=_
   rw[d8 hy]
  have h4:gc (.int 6553) (.int ((k:Int) / (ns.length:Int)))=M.ret (.int (6553*((k:Int) / (ns.length:Int)))):=fc (.inl ⟨by decide,by decide⟩)
  refine⟨y+6553*((k:Int) / (ns.length:Int)),?_⟩
  simp only[ej,mV,b_,az,eB,aW,bT,c0,d2,dV,dC,dA,aC,aN,cO,a_,xl,nS,he,aq,h1,h2,h3,h4,List.map_cons,List.map_nil,List.cons_append,List.nil_append,List.length_cons,List.length_nil,List.getElem?_cons_zero,List.getElem?_cons_succ,cW,Nat.reduceAdd,Nat.zero_le,if_true,Bool.false_eq_true,if_false,c6,gI]
theorem gQ(ns:List Int)(hl:ns.length≤63)(k m:Nat)(hm:0<m):∃v:Nat,v<m∧aY [.scr ns, .int (k:Int), .int (m:Int)]=M.ret (.int (v:Int)):=by
 obtain⟨c,hc⟩:=xG ns hl k
 have b1:=Int.emod_nonneg (c % 2147483563*69069+104723*((k:Int)+1)) (b:=2147483563) (by decide)
 have b2:=Int.emod_lt_of_pos (c % 2147483563*69069+104723*((k:Int)+1)) (b:=2147483563) (by decide)
 generalize hx:(c % 2147483563*69069+104723*((k:Int)+1)) % 2147483563=x at b1 b2
 have b3:=Int.emod_nonneg (x*x+x / 3) (b:=2147483399) (by decide)
 have b4:=Int.emod_lt_of_pos (x*x+x / 3) (b:=2147483399) (by decide)
 generalize hy:(x*x+x / 3) % 2147483399=y at b3 b4
 have m1:gc (.int (c % 2147483563)) (.int 69069)=_:=fc (.inr ⟨by decide,by decide⟩)
 have m2:gc (.int 104723) (.int ((k:Int)+1))=_:=fc (.inl ⟨by decide,by decide⟩)
 have m3:gc (.int x) (.int x)=_:=fc (.inl ⟨by omega,by omega⟩)
 have m4:gc (.int y) (.int y)=_:=fc (.inl ⟨by omega,by omega⟩)
 have hM:(0:Int)<(m:Int):=Int.ofNat_lt.mpr hm
 have n1:=Int.emod_nonneg ((y*y+y / 7) % 2147483647 / 11) (b:=(m:Int)) (by omega)
 have n2:=Int.emod_lt_of_pos ((y*y+y / 7) % 2147483647 / 11) hM
 have q1:iQ (.int c) (.int 2147483563)=_:=fb (by decide)
 have q2:iQ (.int (c % 2147483563*69069+104723*((k:Int)+1))) (.int 2147483563)=_:=fb (by decide)
 have q3:m6 (.int x) (.int 3)=_:=iP (by decide) (by decide)
 have q4:iQ (.int (x*x+x / 3)) (.int 2147483399)=_:=fb (by decide)
 have q5:m6 (.int y) (.int 7)=_:=iP (by decide) (by decide)
 have q6:iQ (.int (y*y+y / 7)) (.int 2147483647)=_:=fb (by decide)
 have q7:m6 (.int ((y*y+y / 7) % 2147483647)) (.int 11)=_:=iP (by decide) (by decide)
 have q8:iQ (.int ((y*y+y / 7) % 2147483647 / 11)) (.int (m:Int))=_:=fb hM
 refine⟨((y*y+y / 7) % 2147483647 / 11 % (m:Int)).toNat,by omega,?_⟩
 rw[Int.toNat_of_nonneg n1]
 rw[hx] at q2
 rw[hy] at q4
 simp only[aY,kE,b_,az,bO,aW,ak,d2,dV,dC,dA,aC,aN,aq,hc,List.map_cons,List.map_nil,List.cons_append,List.nil_append,List.length_cons,List.length_nil,List.getElem?_cons_zero,List.getElem?_cons_succ,List.replicate,List.set_cons_zero,List.set_cons_succ,Nat.reduceAdd,Nat.reduceSub,if_true,gb,m1,m2,m3,m4,q1,q2,q3,q4,q5,q6,q7,q8]
theorem yI{α:Type}(a:α):noex (M.ret a)=M.ret a:=rfl
theorem q_{put:D→a5→Option a5}{body:DS}{I:Nat→a5→Prop}:∀(ds:List D) (i:Nat) (ρ:a5),I i ρ→
 (∀j d,ds[j]? =some d→∀ρ,I (i+j) ρ→∃ρ1 ρ2,put d ρ=some ρ1∧body ρ1=M.ret (.nx ρ2)∧I (i+j+1) ρ2)→∃ρ',forL put body ds ρ=M.ret (.nx ρ')∧I (i+ds.length) ρ'
 |[],i,ρ,h,_=>⟨ρ,rfl,h⟩
 |d::ds,i,ρ,h,step=>by
  obtain⟨ρ1,ρ2,e1,e2,h2⟩:=step 0 d rfl ρ h
  obtain⟨ρ',e3,h3⟩:=q_ (I:=I) ds (i+1) ρ2 h2 fun j d' hd ρ hI=>by
   have:=step (j+1) d' hd ρ (by rw[show i+(j+1)=i+1+j by omega];exact hI)
   rw[show i+(j+1)+1=i+1+j+1 by omega] at this
   exact this
  refine⟨ρ',?_,?_⟩
  ·show (match put d ρ with | none=>M.stuck | some ρ1=>body ρ1>>=fun o=>match o with | .nx ρ2=>forL put body ds ρ2 | .rt v=>M.ret (.rt v))=_
   rw[e1]
   show (body ρ1>>=fun o=>match o with | .nx ρ2=>forL put body ds ρ2 | .rt v=>M.ret (.rt v))=_
   rw[e2]
   exact e3
  ·rw[show i+(d::ds).length=i+1+ds.length by simp;omega]
   exact h3
theorem nK{f:D→M (Option D)}{Pr:D→Prop}:∀(ds:List D),(∀d∈ds,∃y,f d=M.ret (some y)∧Pr y)→∃ys,cY f ds=M.ret ys∧ys.length=ds.length∧∀y∈ys,Pr y
 |[],_=>⟨[],rfl,rfl,fun _ h=>by cases h⟩
 |d::ds,h=>by
  obtain⟨y,e,hy⟩:=h d (List.mem_cons_self ..)
  obtain⟨ys,e2,hl,hp⟩:=nK ds fun d' hd=>h d' (List.mem_cons_of_mem _ hd)
  refine⟨y::ys,?_,by simp[hl],fun z hz=>?_⟩
  ·rw[eg,e,aq,e2]
   rfl
  ·cases hz with
   |head=>exact hy
   |tail _ hz=>exact hp z hz
theorem e_{f:D→M (Option D)}{g:D→D}:∀(ds:List D),(∀d∈ds,f d=M.ret (some (g d)))→cY f ds=M.ret (ds.map g)
 |[],_=>rfl
 |d::ds,h=>by
  rw[eg,h d (List.mem_cons_self ..),aq,e_ ds fun d' hd=>h d' (List.mem_cons_of_mem _ hd)]
  rfl
def z_(x:Str):Bool:=!(Builtin.Str.occurrences ("abcdef":Str) x 0 ("abcdef":Str).length 1).isEmpty
structure Row (W:Nat) (r:Str):Prop where
 len:r.length=W
 let':∀c∈r.cps.toList,z_ ⟨#[c]⟩=true
structure Good (bd:List Str) (W:Nat):Prop where
 r1:1≤bd.length
 r5:bd.length≤5
 w1:1≤W
 w5:W≤5
 rows:∀r∈bd,Row W r
abbrev lE(c:Nat):Prop:=z_ ⟨#[c]⟩=true∧c≠101
def EJ(r:Str):Prop:=∀c∈r.cps.toList,c≠101
theorem sF:∀(ys:List D),(∀y∈ys,∃c,y= .str ⟨#[c]⟩∧lE c)→∃xs,jW ys=some xs∧xs.length=ys.length∧(xs.map (·.length)).sum=ys.length∧Row ys.length (dR xs)∧EJ (dR xs)
 |[],_=>⟨[],rfl,rfl,rfl,⟨rfl,fun c h=>by cases h⟩,fun c h=>by cases h⟩
 |y::ys,h=>by
  obtain⟨c,e,hc⟩:=h y (List.mem_cons_self ..)
  obtain⟨xs,e1,e2,e3,e4,e5⟩:=sF ys fun z hz=>h z (List.mem_cons_of_mem _ hz)
  subst e
  have tF:∀z,z∈((⟨#[c]⟩:Str)++dR xs).cps.toList→z=c∨z∈(dR xs).cps.toList:=fun z hz=>by
   have:((⟨#[c]⟩:Str)++dR xs).cps= #[c]++(dR xs).cps:=rfl
   rw[this] at hz
   simpa using hz
  refine⟨⟨#[c]⟩::xs,?_,by simp[e2],?_,⟨?_,fun z hz=>?_⟩,fun z hz=>?_⟩
  ·show (jW ys).map _=_
   rw[e1]
   rfl
  ·rw[List.map_cons,List.sum_cons,e3]
   show 1+ys.length=_
   simp
   omega
  ·show ((⟨#[c]⟩:Str)++dR xs).length=_
   rw[gJ,e4.len]
   show 1+ys.length=_
   simp
   omega
  ·rcases tF z hz with rfl | q
   ·exact hc.1
   ·exact e4.let' z q
  ·rcases tF z hz with rfl | q
   ·exact hc.2
   ·exact e5 z q
theorem zC{lo:Int}{n:Nat}{d:D}(h:d∈fv lo n):∃i:Nat,i<n∧d= .int (lo+(i:Int)):=by
 unfold fv at h
 obtain⟨i,hi,e⟩:=List.mem_map.mp h
 exact⟨i,List.mem_range.mp hi,e.symm⟩
theorem Bv{lo:Int}{n j:Nat}{d:D}(h:(fv lo n)[j]? =some d):j<n∧d= .int (lo+(j:Int)):=by
 unfold fv at h
 rw[List.getElem?_map] at h
 by_cases hj:j<n
 ·rw[List.getElem?_range hj] at h
  cases h
  exact⟨hj,rfl⟩
 ·rw[List.getElem?_eq_none (by simpa using hj)] at h
  cases h
theorem gw(lo:Int)(n:Nat):(fv lo n).length=n:=by simp[fv]
abbrev fz(d:D):Option Sl:=some (.fz d)
theorem ir{δe:DE}{ρ:a5}{d:D}:eJ 0 bW δe ρ d=(δe (fz d::ρ)>>=fun y=>M.ret (some y)):=rfl
theorem s9{δt:DT}{δe:DE}{ρ:a5}{d:D}:eJ 0 δt δe ρ d=(δt (fz d::ρ)>>=fun b=>if b then δe (fz d::ρ)>>=fun y=>M.ret (some y) else M.ret none):=rfl
theorem ah{a b:DS}{ρ ρ':a5}{o:M Out}(h:a ρ=M.ret (.nx ρ'))(h2:b ρ'=o):az a b ρ=o:=by
 unfold az
 rw[h]
 exact h2
theorem de{a b:DS}{ρ:a5}{d:D}(h:a ρ=M.ret (.rt d)):az a b ρ=M.ret (.rt d):=by
 unfold az
 rw[h]
 rfl
theorem aT{i:Nat}{δ:DE}{ρ:a5}{d:D}(h:δ ρ=M.ret d):bO i δ ρ=M.ret (.nx (ρ.set i (fz d))):=by
 unfold bO
 rw[h]
 rfl
theorem eR{c:DT}{a b:DS}{ρ:a5}{o:M Out}(h:c ρ=M.ret true)(h2:a ρ=o):eB c a b ρ=o:=by
 unfold eB
 rw[h]
 exact h2
theorem cJ{c:DT}{a b:DS}{ρ:a5}{o:M Out}(h:c ρ=M.ret false)(h2:b ρ=o):eB c a b ρ=o:=by
 unfold eB
 rw[h]
 exact h2
theorem aK{δ:DE}{ρ:a5}{d:D}(h:δ ρ=M.ret d):aW δ ρ=M.ret (.rt d):=by
 unfold aW
 rw[h]
 rfl
theorem bq{δ:DE}{ρ:a5}{d:D}(h:δ ρ=M.ret d):e7 δ ρ=M.ret (.nx ρ):=by
 unfold e7
 rw[h]
 rfl
theorem a9{n:Nat}{τ:DS}{ds:List D}{d:D}(h:τ (ds.map (fun d=>some (Sl.fz d))++List.replicate (n - ds.length) none)=M.ret (.rt d)):b_ n τ ds=M.ret d:=by
 unfold b_
 rw[h]
 rfl
theorem qi{n:Nat}{τ:DS}{ds:List D}{ρ:a5}(h:τ (ds.map (fun d=>some (Sl.fz d))++List.replicate (n - ds.length) none)=M.ret (.nx ρ)):b_ n τ ds=M.ret .non:=by
 unfold b_
 rw[h]
 rfl
theorem zE{put:D→a5→Option a5}{δi:DA}{b:DS}{ρ:a5}{ds:List D}{o:Out}(h:δi ρ=M.ret ds)(h2:forL put b ds ρ=M.ret o):noex (da put δi b ρ)=M.ret o:=by
 unfold da
 rw[h,aq,h2]
 rfl
theorem bt{is:List Nat}{τ:DS}{ρ ρ':a5}(h:τ ρ=M.ret (.nx ρ')):cb is τ ρ=M.ret (.nx (fgt is ρ')):=by
 unfold cb
 rw[h]
 rfl
theorem bV{n:Nat}{δi:DA}{δt:DT}{δe:DE}{ρ:a5}{ds ys:List D}(h:δi ρ=M.ret ds)(h2:cY (eJ n δt δe ρ) ds=M.ret ys)(h3:ys.length≤lim):aX n δi δt δe ρ=M.ret (.lst ys):=by
 unfold aX
 rw[h,aq,h2,yI,aq,yA h3]
theorem jR{n:Nat}(h:n≤4096):ib [.int (n:Int)]=M.ret (fv 0 n):=by
 show (if -4096≤(n:Int)∧(n:Int)≤4096 then M.ret (fv 0 (n:Int).toNat) else M.stuck)=_
 rw[if_pos ⟨by omega,by omega⟩]
 rfl
structure Alpha (al:Str):Prop where
 pos:0<al.length
 ok:∀c∈al.cps.toList,lE c
theorem Cs:Alpha "ab"∧Alpha "abc"∧Alpha "aab"∧Alpha "fa":=by
 refine⟨⟨by decide+kernel,?_⟩,⟨by decide+kernel,?_⟩,⟨by decide+kernel,?_⟩,⟨by decide+kernel,?_⟩⟩<;>decide+kernel
theorem yb{x:Str}{i:Nat}(h:i<x.length):∃c,c∈x.cps.toList∧x.cps.toList[i]? =some c∧pD (.str x) (.int (i:Int))=M.ret (.str ⟨#[c]⟩):=by
 have h:i<x.cps.toList.length:=by rw[Array.length_toList];exact h
 refine⟨x.cps.toList[i],List.getElem_mem h,List.getElem?_eq_getElem h,?_⟩
 show (match L2.atI x.cps.toList (i:Int) with | some c=>M.ret (D.str ⟨#[c]⟩) | none=>M.stuck)=_
 rw[d8 (List.getElem?_eq_getElem h)]
abbrev brd(bd:List Str):D:= .tup (bd.map D.str)
abbrev sgn(at' mo:Nat)(ns:List Int)(W:Nat)(al:Str)(bd:List Str)(R:Nat)(x7 x8:Option Sl):a5:=[fz (.scr ns),fz (.int (at':Int)),fz (.int (mo:Int)),fz (.int (R:Int)),fz (.int (W:Int)),fz (.str al),fz (brd bd),x7,x8]
def Ke:DE:=aX 0 (fun ρ=>(aC (dV 4) aN) ρ>>=ib) bW (d2 pD (dV 6) (ak 3 aY (aC (dV 1) (aC (d2 c6 (d2 c6 (d2 c6 (dV 2) (dC (.int 3))) (d2 gc (dC (.int 7)) (dV 8))) (dV 0)) (aC (dA a_ (aC (dV 6) aN)) aN)))))
theorem w9(at' mo:Nat)(ns:List Int)(hl:ns.length≤63)(al:Str)(ha:Alpha al)(j W R:Nat)(hW:W≤5)(bd:List Str)(x8:Option Sl):
 ∃ys,Ke (sgn at' mo ns W al bd R (fz (.int (0+(j:Int)))) x8)=M.ret (.lst ys)∧ys.length=W∧∀y∈ys,∃c,y= .str ⟨#[c]⟩∧lE c:=by
 obtain⟨ys,e,B6,hp⟩:=nK (f:=eJ 0 bW (d2 pD (dV 6) (ak 3 aY (aC (dV 1) (aC (d2 c6 (d2 c6 (d2 c6 (dV 2) (dC (.int 3))) (d2 gc (dC (.int 7)) (dV 8))) (dV 0)) (aC (dA a_ (aC (dV 6) aN)) aN)))))
  (sgn at' mo ns W al bd R (fz (.int (0+(j:Int)))) x8)) (Pr:=fun y=>∃c,y= .str ⟨#[c]⟩∧lE c) (fv 0 W) fun d hd=>by
  obtain⟨i,hi,rfl⟩:=zC hd
  obtain⟨v,hv,e⟩:=gQ ns hl (at'+3+7*j+i) al.length ha.pos
  obtain⟨c,hc,_,e2⟩:=yb hv
  refine⟨.str ⟨#[c]⟩,?_,c,rfl,ha.ok c hc⟩
  rw[ir]
  have k:(at':Int)+3+7*(0+(j:Int))+(0+(i:Int))=((at'+3+7*j+i:Nat):Int):=by omega
  have m1:gc (.int 7) (.int (0+(j:Int)))=M.ret (.int (7*(0+(j:Int)))):=fc (.inl ⟨by decide,by decide⟩)
  simp only[ak,d2,dV,dC,dA,aC,aN,aq,List.length_cons,List.length_nil,List.getElem?_cons_zero,List.getElem?_cons_succ,Nat.reduceAdd,if_true,gb,m1,k,a_,e,e2]
 refine⟨ys,bV (jR (n:=W) (by omega)) e (by rw[B6,gw,cW];omega),by rw[B6,gw],hp⟩
def Kf:DS:=bO 6 (d2 j6 (dV 6) (dA c9 (aC (dM FF joinM (dC (.str "")) (aC (dV 8) aN)) aN)))
theorem Ae(at' mo:Nat)(ns:List Int)(W:Nat)(al:Str)(bd:List Str)(R:Nat)(x7:Option Sl)(ys:List D)(hb:bd.length≤5)(hy:ys.length≤5)(s3:∀y∈ys,∃c,y= .str ⟨#[c]⟩∧lE c):
 ∃r,(Row ys.length r∧EJ r)∧Kf (sgn at' mo ns W al bd R x7 (fz (.lst ys)))=M.ret (.nx (sgn at' mo ns W al (bd++[r]) R x7 (fz (.lst ys)))):=by
 obtain⟨xs,t1,t2,t3,t4⟩:=sF ys s3
 refine⟨dR xs,t4,?_⟩
 have jn:joinM (.str "") [.lst ys]=M.ret (.str (dR xs)):=by
  show (match jW ys with | some (xs:List Str)=>if ("":Str).length=0∧(xs.map (fun x:Str=>x.length)).sum≤lim then M.ret (D.str (dR xs)) else M.stuck | none=>M.stuck)=_
  rw[t1]
  show (if ("":Str).length=0∧(xs.map (fun x:Str=>x.length)).sum≤lim then M.ret (D.str (dR xs)) else M.stuck)=_
  rw[if_pos ⟨rfl,by rw[t3,cW];omega⟩]
 have ct:j6 (brd bd) (.tup [.str (dR xs)])=M.ret (brd (bd++[dR xs])):=by
  show (if (bd.map D.str).length+1≤lim then M.ret (D.tup (bd.map D.str++[.str (dR xs)])) else M.stuck)=_
  rw[if_pos (by rw[List.length_map,cW];omega)]
  simp[brd]
 refine(aT (d:=brd (bd++[dR xs])) ?_).trans rfl
 simp only[d2,dV,dC,dA,aC,aN,dM,FF,aq,List.getElem?_cons_zero,List.getElem?_cons_succ,if_true,jn,c9,List.length_cons,List.length_nil,cW,Nat.reduceAdd,Nat.reduceLeDiff,ct]
theorem sV(ns:List Int)(hl:ns.length≤63)(at' mo:Nat)(m0:0<mo)(m5:mo≤5):∃bd W,Good bd W∧(∀r∈bd,EJ r)∧bd.length≤mo∧W≤mo∧dG [.scr ns, .int (at':Int), .int (mo:Int)]=M.ret (brd bd):=by
 obtain⟨r,hr,e1⟩:=gQ ns hl at' mo m0
 obtain⟨c,hc,e2⟩:=gQ ns hl (at'+1) mo m0
 obtain⟨a,ha,e3⟩:=gQ ns hl (at'+2) 4 (by decide)
 obtain⟨al,E9,e4⟩:∃al,Alpha al∧cx (.lst [.str "ab", .str "abc", .str "aab", .str "fa"]) (.int (a:Int))=M.ret (.str al):=by
  obtain⟨a1,a2,a3,a4⟩:=Cs
  match a,ha with
  |0,_=>exact⟨_,a1,rfl⟩
  |1,_=>exact⟨_,a2,rfl⟩
  |2,_=>exact⟨_,a3,rfl⟩
  |3,_=>exact⟨_,a4,rfl⟩
 have k1:(1:Int)+(r:Int)=((r+1:Nat):Int):=by omega
 have k2:(1:Int)+(c:Int)=((c+1:Nat):Int):=by omega
 have xm:aY [.scr ns, .int (at':Int), .int (mo:Int)]=M.ret (.int (r:Int)):=e1
 have Et:aY [.scr ns, .int ((at':Int)+1), .int (mo:Int)]=M.ret (.int (c:Int)):=e2
 have GH:aY [.scr ns, .int ((at':Int)+2), .int 4]=M.ret (.int (a:Int)):=e3
 obtain⟨ρ',f1,bd,f2,f3,f4⟩:=q_ (put:=putN 7) (body:=cb [7,8] (az (bO 8 Ke) Kf))
  (I:=fun i ρ=>∃bd,ρ=sgn at' mo ns (c+1) al bd (r+1) none none∧bd.length=i∧∀z∈bd,Row (c+1) z∧EJ z)
  (fv 0 (r+1)) 0 (sgn at' mo ns (c+1) al [] (r+1) none none) ⟨[],rfl,rfl,fun _ h=>by cases h⟩ fun j d hd ρ ⟨bd,hρ,hb,hw⟩=>by
   obtain⟨hj,rfl⟩:=Bv hd
   subst hρ
   obtain⟨ys,s1,s2,s3⟩:=w9 at' mo ns hl al E9 j (c+1) (r+1) (by omega) bd none
   obtain⟨xq,t1,t2⟩:=Ae at' mo ns (c+1) al bd (r+1) (fz (.int (0+(j:Int)))) ys (by omega) (by omega) s3
   refine⟨_,_,rfl,bt (ah (aT s1) t2),bd++[xq],rfl,by simp[hb],fun z hz=>?_⟩
   rcases List.mem_append.mp hz with h | h
   ·exact hw z h
   ·have h:z=xq:=by simpa using h
    subst h
    rw[s2] at t1
    exact t1
 refine⟨bd,c+1,⟨by rw[f3,gw];omega,by rw[f3,gw];omega,by omega,by omega,fun r q=>(f4 r q).1⟩,fun r q=>(f4 r q).2,by rw[f3,gw];omega,by omega,?_⟩
 subst f2
 refine a9 ?_
 refine ah (aT (d:= .int ((r+1:Nat):Int)) ?_) ?_
 ·simp only[ak,d2,dV,dC,aC,aN,aq,List.map_cons,List.map_nil,List.cons_append,List.nil_append,List.length_cons,List.length_nil,List.getElem?_cons_zero,List.getElem?_cons_succ,Nat.reduceAdd,if_true,gb,xm,k1]
 refine ah (aT (d:= .int ((c+1:Nat):Int)) ?_) ?_
 ·simp only[ak,d2,dV,dC,aC,aN,aq,List.map_cons,List.map_nil,List.cons_append,List.nil_append,List.length_cons,List.length_nil,List.replicate,List.set_cons_zero,List.set_cons_succ,Nat.reduceSub,List.getElem?_cons_zero,List.getElem?_cons_succ,Nat.reduceAdd,if_true,gb,Et,k2]
 refine ah (aT (d:= .str al) ?_) ?_
 ·simp only[ak,d2,dV,dC,dA,aC,aN,aq,List.map_cons,List.map_nil,List.cons_append,List.nil_append,List.length_cons,List.length_nil,List.replicate,List.set_cons_zero,List.set_cons_succ,Nat.reduceSub,List.getElem?_cons_zero,List.getElem?_cons_succ,Nat.reduceAdd,if_true,gb,GH,cO,cW,Nat.reduceLeDiff,e4]
 refine ah (aT (d:= .tup []) rfl) ?_
 refine ah (zE (jR (n:=r+1) (by omega)) f1) ?_
 exact aK rfl
def Plain:D→Prop
 | .non | .bl _ | .int _ | .str _ | .tup _ | .lst _=>True
 |_=>False
def isStr:D→Bool
 | .str _=>true
 |_=>false
def isTup:D→Bool
 | .tup _=>true
 |_=>false
theorem eM{d:D}(h:Plain d):fY [d, .raw (.ty "str")]=M.ret (.bl (isStr d)):=by
 cases d<;>first | rfl | exact h.elim
theorem kT{d:D}(h:Plain d):fY [d, .raw (.ty "tuple")]=M.ret (.bl (isTup d)):=by
 cases d<;>first | rfl | exact h.elim
def pM:D→Bool
 | .str x=>(x.length==1)&&z_ x
 |_=>false
theorem ll{ρ:a5}{i:Nat}{d:D}(h:ρ[i]? =some (fz d)):dV i ρ=M.ret d:=by
 unfold dV
 rw[h]
theorem eq_int(i j:Int):nS (.int i) (.int j)=M.ret (.bl (i==j)):=rfl
theorem ne_int(i j:Int):g7 (.int i) (.int j)=M.ret (.bl (!(i==j))):=rfl
theorem len_str(x:Str):a_ [.str x]=M.ret (.int (x.length:Int)):=rfl
theorem in_str(x:Str):x_ false (.str x) (.str "abcdef")=M.ret (.bl (z_ x)):=rfl
theorem i1(a b:Nat):((a:Int)==(b:Int))=(a==b):=by
 by_cases h:a=b
 ·subst h;simp
 ·have h2:¬(a:Int)=(b:Int):=by omega
  rw[beq_eq_false_iff_ne.mpr h,beq_eq_false_iff_ne.mpr h2]
theorem AN{d:D}(h:Plain d){i:Nat}{ρ:a5}(hρ:ρ[i]? =some (fz d)):
 eh (dA fY (aC (dV i) (aC (dC (.raw (.ty "str"))) aN))) (eh (d2 nS (dA a_ (aC (dV i) aN)) (dC (.int 1))) (d2 (x_ false) (dV i) (dC (.str "abcdef")))) ρ=M.ret (.bl (pM d)):=by
 have hv:=ll hρ
 have e1:=i1
 cases d with
 |str x=>
  have k:((x.length:Int)==1)=(x.length==1):=i1 x.length 1
  simp only[eh,dA,aC,aN,dC,d2,hv,aq,eM h,isStr,xl,if_true,len_str,eq_int,k,in_str,pM]
  cases x.length==1<;>rfl
 |non=>simp only[eh,dA,aC,aN,dC,d2,hv,aq,eM h,isStr,xl,if_false,Bool.false_eq_true,pM]
 |bl b=>simp only[eh,dA,aC,aN,dC,d2,hv,aq,eM h,isStr,xl,if_false,Bool.false_eq_true,pM]
 |int b=>simp only[eh,dA,aC,aN,dC,d2,hv,aq,eM h,isStr,xl,if_false,Bool.false_eq_true,pM]
 |tup b=>simp only[eh,dA,aC,aN,dC,d2,hv,aq,eM h,isStr,xl,if_false,Bool.false_eq_true,pM]
 |lst b=>simp only[eh,dA,aC,aN,dC,d2,hv,aq,eM h,isStr,xl,if_false,Bool.false_eq_true,pM]
 |raw _=>exact h.elim
 |exc _=>exact h.elim
 |scr _=>exact h.elim
 |dct _ _=>exact h.elim
 |dci _ _=>exact h.elim
theorem m8{d:D}(h:Plain d):cw [d]=M.ret (.bl (pM d)):=a9 (aK (AN h rfl))
def gW(x:Str):Bool:=x.cps.toList.all fun c=>z_ ⟨#[c]⟩
def kN:D→Bool
 | .str x=>(decide (1≤x.length)&&decide (x.length≤8))&&gW x
 |_=>false
theorem vO(l:List Bool):bools (l.map D.bl)=some l:=by
 induction l with
 |nil=>rfl
 |cons b r ih=>show (bools (r.map D.bl)).map _=_;rw[ih];rfl
theorem all_map(l:List Bool):allM [.lst (l.map D.bl)]=M.ret (.bl (l.all id)):=by
 show (match bools (l.map D.bl) with | some bs=>M.ret (D.bl (bs.all id)) | none=>M.stuck)=_
 rw[vO]
theorem xH{δ:DE}{ρ:a5}{n:Nat}(h:δ ρ=M.ret (.int (n:Int))):
 c0 (s8 (fun i j=>decide (i≤j)) (fun i j=>decide (i≤j)) (dC (.int 1)) δ (dC (.int 8))) ρ=M.ret (decide (1≤n)&&decide (n≤8)):=by
 have k1:decide ((1:Int)≤(n:Int))=decide (1≤n):=by by_cases h:1≤n<;>simp[h]<;>omega
 have k2:decide ((n:Int)≤8)=decide (n≤8):=by by_cases h:n≤8<;>simp[h]<;>omega
 simp only[c0,s8,dC,h,aq,k1,k2,gI,xl]
 cases decide (1≤n)<;>rfl
theorem tI{d:D}(h:Plain d):ei [d]=M.ret (.bl (kN d)):=by
 refine a9 ?_
 have hρ:([d].map (fun d=>some (Sl.fz d))++List.replicate (1 - [d].length) none)=[fz d]:=rfl
 rw[hρ]
 have hv:dV 0 [fz d]=M.ret d:=rfl
 have no:isStr d=false→sL [fz d]=M.ret (.rt (.bl false)):=fun hs=>by
  refine de (eR ?_ (aK rfl))
  simp only[pq,cq,b7,dA,aC,aN,dC,hv,aq,eM h,hs,sE,Bool.not_false,if_true]
 cases d with
 |str x=>
  have hi:b7 (dA fY (aC (dV 0) (aC (dC (.raw (.ty "str"))) aN))) [fz (.str x)]=M.ret true:=by
   simp only[b7,dA,aC,aN,dC,hv,aq,eM h,isStr,sE]
  have hl:dA a_ (aC (dV 0) aN) [fz (.str x)]=M.ret (.int (x.length:Int)):=rfl
  have hc:=xH hl
  by_cases hr:(decide (1≤x.length)&&decide (x.length≤8))=true
  ·rw[hr] at hc
   refine ah (cJ ?_ (ρ:=[fz (.str x)]) rfl) (aK ?_)
   ·unfold pq cq
    rw[hi,aq,aq,hc]
    rfl
   ·have hb:x.length≤8:=by simp only[Bool.and_eq_true,decide_eq_true_eq] at hr;exact hr.2
    have cm:aX 0 (fun ρ=>(dV 0) ρ>>=Eh) bW (ak 1 cw (aC (dV 0) aN)) [fz (.str x)]=M.ret (.lst ((x.cps.toList.map fun c=>z_ ⟨#[c]⟩).map D.bl)):=by
     refine bV (ds:=signs x) rfl ?_ ?_
     ·have:=e_ (f:=eJ 0 bW (ak 1 cw (aC (dV 0) aN)) [fz (.str x)]) (g:=fun d=>D.bl (pM d)) (signs x) fun d hd=>by
       rw[ir]
       obtain⟨c,_,rfl⟩:=List.mem_map.mp hd
       show (cw [.str ⟨#[c]⟩]>>=fun y=>M.ret (some y))=_
       rw[m8 (d:= .str ⟨#[c]⟩) trivial]
       rfl
      rw[this]
      unfold signs
      rw[List.map_map,List.map_map]
      congr 1
     ·rw[List.length_map,List.length_map,Array.length_toList,cW]
      exact Nat.le_trans hb (by decide)
    rw[cK (bg cm rfl),all_map]
    show M.ret (D.bl ((x.cps.toList.map fun c=>z_ ⟨#[c]⟩).all id))=M.ret (D.bl ((decide (1≤x.length)&&decide (x.length≤8))&&gW x))
    rw[hr]
    unfold gW
    rw[List.all_map]
    rfl
  ·have hr:(decide (1≤x.length)&&decide (x.length≤8))=false:=by simpa using hr
   rw[hr] at hc
   have:kN (.str x)=false:=by
    show ((decide (1≤x.length)&&decide (x.length≤8))&&gW x)=false
    rw[hr];rfl
   rw[this]
   refine de (eR ?_ (aK rfl))
   unfold pq cq
   rw[hi,aq,aq,hc]
   rfl
 |non=>exact no rfl
 |bl b=>exact no rfl
 |int b=>exact no rfl
 |tup b=>exact no rfl
 |lst b=>exact no rfl
 |raw _=>exact h.elim
 |exc _=>exact h.elim
 |scr _=>exact h.elim
 |dct _ _=>exact h.elim
 |dci _ _=>exact h.elim
def iw:D→Nat
 | .str x=>x.length
 |_=>0
def la:D→Bool
 | .tup ds=>(decide (1≤ds.length)&&decide (ds.length≤8))&&(ds.all kN&&ds.all fun d=>iw d==iw (ds.headD .non))
 |_=>false
def Plain2:D→Prop
 | .tup ds=>∀d∈ds,Plain d
 |d=>Plain d
theorem Plain2.plain{d:D}(h:Plain2 d):Plain d:=by
 cases d<;>first | exact h | exact trivial
theorem AM{ds:List D}:a_ [.tup ds]=M.ret (.int (ds.length:Int)):=rfl
theorem Iu{ds:List D}{d:D}{r:List D}(h:ds=d::r):aU (.tup ds) (.int 0)=M.ret d:=by
 subst h
 show (match L2.atI (d::r) ((0:Nat):Int) with | some d=>M.ret d | none=>M.stuck)=_
 rw[d8 (x:=d) rfl]
theorem Bw{d:D}(h:kN d=true):∃x,d= .str x:=by
 cases d<;>first | exact⟨_,rfl⟩ | cases h
theorem v3{d:D}(h:Plain d):pq (cq (b7 (dA fY (aC (dV 0) (aC (dC (.raw (.ty "tuple"))) aN))))) (cq (c0 (s8 (fun i j=>decide (i≤j)) (fun i j=>decide (i≤j)) (dC (.int 1)) (dA a_ (aC (dV 0) aN)) (dC (.int 8))))) [fz d]=
 M.ret (match d with | .tup ds=>!(decide (1≤ds.length)&&decide (ds.length≤8)) | _=>true):=by
 have hv:dV 0 [fz d]=M.ret d:=rfl
 have no:isTup d=false→pq (cq (b7 (dA fY (aC (dV 0) (aC (dC (.raw (.ty "tuple"))) aN))))) (cq (c0 (s8 (fun i j=>decide (i≤j)) (fun i j=>decide (i≤j)) (dC (.int 1)) (dA a_ (aC (dV 0) aN)) (dC (.int 8))))) [fz d]=M.ret true:=fun hs=>by
  simp only[pq,cq,b7,dA,aC,aN,dC,hv,aq,kT h,hs,sE,Bool.not_false,if_true]
 cases d with
 |tup ds=>
  have hi:b7 (dA fY (aC (dV 0) (aC (dC (.raw (.ty "tuple"))) aN))) [fz (.tup ds)]=M.ret true:=by
   simp only[b7,dA,aC,aN,dC,hv,aq,kT h,isTup,sE]
  have hl:dA a_ (aC (dV 0) aN) [fz (.tup ds)]=M.ret (.int (ds.length:Int)):=rfl
  unfold pq cq
  rw[hi,aq,aq,xH hl]
  rfl
 |non=>exact no rfl
 |bl b=>exact no rfl
 |int b=>exact no rfl
 |str b=>exact no rfl
 |lst b=>exact no rfl
 |raw _=>exact h.elim
 |exc _=>exact h.elim
 |scr _=>exact h.elim
 |dct _ _=>exact h.elim
 |dci _ _=>exact h.elim
theorem all_rows{ds:List D}(h:∀d∈ds,Plain d)(hl:ds.length≤8):dA allM (aC (aX 0 (qR (dV 0)) bW (ak 1 ei (aC (dV 0) aN))) aN) [fz (.tup ds)]=M.ret (.bl (ds.all kN)):=by
 have cm:aX 0 (qR (dV 0)) bW (ak 1 ei (aC (dV 0) aN)) [fz (.tup ds)]=M.ret (.lst ((ds.map kN).map D.bl)):=by
  refine bV (ds:=ds) rfl ?_ (by rw[List.length_map,List.length_map,cW];omega)
  rw[List.map_map]
  refine e_ (g:=D.bl∘kN) ds fun d hd=>?_
  rw[ir]
  show (ei [d]>>=fun y=>M.ret (some y))=_
  rw[tI (h d hd)]
  rfl
 rw[cK (bg cm rfl),all_map,List.all_map]
 rfl
theorem all_lens{ds:List D}(hs:∀d∈ds,∃x,d= .str x)(h0:1≤ds.length)(hl:ds.length≤8):
 dA allM (aC (aX 0 (qR (dV 0)) bW (d2 nS (dA a_ (aC (dV 0) aN)) (dA a_ (aC (d2 aU (dV 1) (dC (.int 0))) aN)))) aN) [fz (.tup ds)]=M.ret (.bl (ds.all fun d=>iw d==iw (ds.headD .non))):=by
 obtain⟨d0,r,e0⟩:∃d0 r,ds=d0::r:=by
  cases ds with
  |nil=>simp at h0
  |cons a r=>exact⟨a,r,rfl⟩
 have hh:ds.headD .non=d0:=by rw[e0];rfl
 obtain⟨x0,JX⟩:=hs d0 (by rw[e0];exact List.mem_cons_self ..)
 have cm:aX 0 (qR (dV 0)) bW (d2 nS (dA a_ (aC (dV 0) aN)) (dA a_ (aC (d2 aU (dV 1) (dC (.int 0))) aN))) [fz (.tup ds)]=M.ret (.lst ((ds.map fun d=>iw d==iw (ds.headD .non)).map D.bl)):=by
  refine bV (ds:=ds) rfl ?_ (by rw[List.length_map,List.length_map,cW];omega)
  rw[List.map_map]
  refine e_ (g:=D.bl∘fun d=>iw d==iw (ds.headD .non)) ds fun d hd=>?_
  rw[ir]
  obtain⟨x,rfl⟩:=hs d hd
  have k:((x.length:Int)==(x0.length:Int))=(x.length==x0.length):=i1 _ _
  have i0:aU (.tup ds) (.int 0)=M.ret (.str x0):=by rw[Iu e0,JX]
  have KY:ds.headD .non= .str x0:=by rw[hh,JX]
  simp only[d2,dA,aC,aN,dC,dV,aq,List.getElem?_cons_zero,List.getElem?_cons_succ,len_str,i0,eq_int,k,Function.comp,iw,KY]
 rw[cK (bg cm rfl),all_map,List.all_map]
 rfl
theorem pK{d:D}(h:Plain2 d):fG [d]=M.ret (.bl (la d)):=by
 refine a9 ?_
 have hρ:([d].map (fun d=>some (Sl.fz d))++List.replicate (1 - [d].length) none)=[fz d]:=rfl
 rw[hρ]
 have hf:=v3 h.plain
 have no:(∀ds,d≠ .tup ds)→mU [fz d]=M.ret (.rt (.bl (la d))):=fun hn=>by
  cases d<;>first | exact absurd rfl (hn _) | exact de (eR hf (aK rfl))
 cases d with
 |tup ds=>
  have hf:_=M.ret (!(decide (1≤ds.length)&&decide (ds.length≤8))):=hf
  by_cases hr:(decide (1≤ds.length)&&decide (ds.length≤8))=true
  ·rw[hr] at hf
   have hb:=hr
   simp only[Bool.and_eq_true,decide_eq_true_eq] at hb
   have e:la (.tup ds)=(ds.all kN&&ds.all fun d=>iw d==iw (ds.headD .non)):=by
    show ((decide (1≤ds.length)&&decide (ds.length≤8))&&_)=_
    rw[hr,Bool.true_and]
   rw[e]
   have a1:=all_rows h hb.2
   refine ah (cJ hf rfl) ?_
   cases hc:ds.all kN with
   |false=>
    rw[hc] at a1
    refine de (eR ?_ (aK rfl))
    unfold cq b7
    rw[a1]
    rfl
   |true=>
    rw[hc] at a1
    refine ah (cJ ?_ rfl) (aK ?_)
    ·unfold cq b7
     rw[a1]
     rfl
    ·rw[Bool.true_and]
     exact all_lens (fun d hd=>Bw (List.all_eq_true.mp hc d hd)) hb.1 hb.2
  ·have hr:(decide (1≤ds.length)&&decide (ds.length≤8))=false:=by simpa using hr
   rw[hr] at hf
   have e:la (.tup ds)=false:=by
    show ((decide (1≤ds.length)&&decide (ds.length≤8))&&_)=_
    rw[hr];rfl
   rw[e]
   exact de (eR hf (aK rfl))
 |non=>exact no fun _ z=>by cases z
 |bl b=>exact no fun _ z=>by cases z
 |int b=>exact no fun _ z=>by cases z
 |str b=>exact no fun _ z=>by cases z
 |lst b=>exact no fun _ z=>by cases z
 |raw _=>exact h.elim
 |exc _=>exact h.elim
 |scr _=>exact h.elim
 |dct _ _=>exact h.elim
 |dci _ _=>exact h.elim
structure Brd (ob:List Str) (V:Nat):Prop where
 r1:1≤ob.length
 r8:ob.length≤8
 w1:1≤V
 w8:V≤8
 rows:∀r∈ob,Row V r
theorem Good.brd{bd:List Str}{W:Nat}(hg:Good bd W):Brd bd W:=⟨hg.r1,by have:=hg.r5;omega,hg.w1,by have:=hg.w5;omega,hg.rows⟩
theorem Brd.board{ob:List Str}{V:Nat}(h:Brd ob V):la (brd ob)=true:=by
 have H8:∀r∈ob,kN (.str r)=true:=fun r hr=>by
  have q:=h.rows r hr
  show ((decide (1≤r.length)&&decide (r.length≤8))&&gW r)=true
  rw[q.len]
  have a:decide (1≤V)=true:=decide_eq_true h.w1
  have b:decide (V≤8)=true:=decide_eq_true h.w8
  rw[a,b]
  show gW r=true
  exact List.all_eq_true.mpr fun c hc=>q.let' c hc
 have h0:iw ((ob.map D.str).headD .non)=V:=by
  have:=h.r1
  have hr:=h.rows
  cases ob with
  |nil=>simp at this
  |cons x l=>exact(hr x (List.mem_cons_self ..)).len
 show ((decide (1≤(ob.map D.str).length)&&decide ((ob.map D.str).length≤8))&&((ob.map D.str).all kN&&(ob.map D.str).all fun d=>iw d==iw ((ob.map D.str).headD .non)))=true
 rw[h0,List.length_map,decide_eq_true h.r1,decide_eq_true h.r8]
 have a:(ob.map D.str).all kN=true:=List.all_eq_true.mpr fun d hd=>by
  obtain⟨r,hr,rfl⟩:=List.mem_map.mp hd
  exact H8 r hr
 have b:((ob.map D.str).all fun d=>iw d==V)=true:=List.all_eq_true.mpr fun d hd=>by
  obtain⟨r,hr,rfl⟩:=List.mem_map.mp hd
  show (r.length==V)=true
  rw[(h.rows r hr).len]
  simp
 rw[a,b]
 rfl
theorem vP{bd:List Str}:Plain2 (brd bd):=fun d hd=>by
 obtain⟨r,_,rfl⟩:=List.mem_map.mp hd
 trivial
theorem pw{δ:DE}{ρ:a5}{b:Bool}(h:δ ρ=M.ret (.bl b)):b7 δ ρ=M.ret b:=by
 unfold b7
 rw[h]
 rfl
theorem gL{δ:DE}{ρ:a5}{b:Bool}(h:δ ρ=M.ret (.bl b)):c0 δ ρ=M.ret b:=by
 unfold c0
 rw[h]
 rfl
theorem tf{τ:DT}{ρ:a5}{b:Bool}(h:τ ρ=M.ret b):cq τ ρ=M.ret (!b):=by
 unfold cq
 rw[h]
 rfl
theorem Brd.nb{ob:List Str}{V:Nat}(h:Brd ob V):aI [brd ob]=M.ret .non:=by
 refine qi (ρ:=[fz (brd ob)]) (cJ (tf (pw (b:=true) ?_)) rfl)
 refine(ao (ds:=[brd ob]) rfl rfl).trans ?_
 rw[pK vP,h.board]
theorem Brd.len0{ob:List Str}{V:Nat}(h:Brd ob V){i:Nat}{ρ:a5}(hρ:ρ[i]? =some (fz (brd ob))):dA a_ (aC (d2 aU (dV i) (dC (.int 0))) aN) ρ=M.ret (.int (V:Int)):=by
 have h1:=h.r1
 have hr:=h.rows
 obtain⟨x,l,e⟩:∃x l,ob=x::l:=by
  cases ob with
  |nil=>simp at h1
  |cons x l=>exact⟨x,l,rfl⟩
 have hx:x.length=V:=(hr x (by rw[e];exact List.mem_cons_self ..)).len
 have i0:aU (brd ob) (.int 0)=M.ret (.str x):=Iu (show ob.map D.str=D.str x::l.map D.str by rw[e];rfl)
 have k:=aL (g:=aU) (ll hρ) (show dC (.int 0) ρ=M.ret (.int 0) from rfl)
 rw[i0] at k
 rw[cK (bg (xs:=[]) k rfl)]
 show M.ret (D.int (x.length:Int))=_
 rw[hx]
theorem AL{bd:List Str}{i:Nat}{ρ:a5}(hρ:ρ[i]? =some (fz (brd bd))):dA a_ (aC (dV i) aN) ρ=M.ret (.int (bd.length:Int)):=by
 have:a_ [brd bd]=M.ret (.int (bd.length:Int)):=by
  show M.ret (D.int ((bd.map D.str).length:Int))=_
  rw[List.length_map]
 simp only[dA,aC,aN,ll hρ,aq,this]
def fV:D→Bool
 | .int _=>true
 |_=>false
theorem o6{d:D}(h:Plain d):bj [d]=M.ret (.bl (fV d)):=by
 cases d<;>first | rfl | exact h.elim
def EO(R W:Nat):D→D→Bool
 | .int a, .int b=>(decide (0≤a)&&decide (a<(R:Int)))&&(decide (0≤b)&&decide (b<(W:Int)))
 |_,_=>false
def BP(R W:Nat):D→Bool
 | .tup [u,v]=>EO R W u v
 |_=>false
theorem ES{δ ε:DE}{ρ:a5}{i n:Int}(h:δ ρ=M.ret (.int i))(h2:ε ρ=M.ret (.int n)):
 s8 (fun i j=>decide (i≤j)) (fun i j=>decide (i<j)) (dC (.int 0)) δ ε ρ=M.ret (.bl (decide (0≤i)&&decide (i<n))):=by
 simp only[s8,dC,h,h2,aq,gI]
 cases decide (0≤i)<;>rfl
theorem rl{bd:List Str}{W:Nat}(hg:Brd bd W){d:D}(h:Plain2 d):gR [brd bd,d]=M.ret (.bl (BP bd.length W d)):=by
 refine a9 ?_
 have hρ:([brd bd,d].map (fun d=>some (Sl.fz d))++List.replicate (2 - [brd bd,d].length) none)=[fz (brd bd),fz d]:=rfl
 rw[hρ]
 have hv:dV 1 [fz (brd bd),fz d]=M.ret d:=rfl
 have no:isTup d=false→o7 [fz (brd bd),fz d]=M.ret (.rt (.bl false)):=fun hs=>by
  refine de (eR ?_ (aK rfl))
  simp only[pq,cq,b7,dA,aC,aN,dC,hv,aq,kT h.plain,hs,sE,Bool.not_false,if_true]
 cases d with
 |tup ds=>
  have hi:cq (b7 (dA fY (aC (dV 1) (aC (dC (.raw (.ty "tuple"))) aN)))) [fz (brd bd),fz (.tup ds)]=M.ret false:=by
   simp only[cq,b7,dA,aC,aN,dC,hv,aq,kT h.plain,isTup,sE,Bool.not_true]
  have k:((ds.length:Int)==2)=(ds.length==2):=i1 ds.length 2
  have hl:pq (cq (b7 (dA fY (aC (dV 1) (aC (dC (.raw (.ty "tuple"))) aN))))) (c0 (d2 g7 (dA a_ (aC (dV 1) aN)) (dC (.int 2)))) [fz (brd bd),fz (.tup ds)]=M.ret (!(ds.length==2)):=by
   unfold pq
   rw[hi]
   simp only[c0,d2,dA,aC,aN,dC,hv,aq,AM,ne_int,k,xl,Bool.false_eq_true,if_false]
  match ds,h,hl with
  |[],h,hl=>exact de (eR hl (aK rfl))
  |[_],h,hl=>exact de (eR hl (aK rfl))
  |_::_::_::_,h,hl=>
   refine de (eR (hl.trans ?_) (aK rfl))
   simp
  |[u,v],h,hl=>
   refine ah (cJ hl rfl) ?_
   have pu:Plain u:=h u (by simp)
   have pv:Plain v:=h v (by simp)
   have w1:ak 1 bj (aC (d2 aU (dV 1) (dC (.int 0))) aN) [fz (brd bd),fz (.tup [u,v])]=M.ret (.bl (fV u)):=o6 pu
   have w2:ak 1 bj (aC (d2 aU (dV 1) (dC (.int 1))) aN) [fz (brd bd),fz (.tup [u,v])]=M.ret (.bl (fV v)):=o6 pv
   have hw:pq (cq (b7 (ak 1 bj (aC (d2 aU (dV 1) (dC (.int 0))) aN)))) (cq (b7 (ak 1 bj (aC (d2 aU (dV 1) (dC (.int 1))) aN)))) [fz (brd bd),fz (.tup [u,v])]=M.ret (!(fV u&&fV v)):=by
    unfold pq cq b7
    rw[w1,w2]
    simp only[aq,sE]
    cases fV u<;>cases fV v<;>rfl
   have bad:(fV u&&fV v)=false→az (eB (pq (cq (b7 (ak 1 bj (aC (d2 aU (dV 1) (dC (.int 0))) aN)))) (cq (b7 (ak 1 bj (aC (d2 aU (dV 1) (dC (.int 1))) aN))))) (aW (dC (.bl false))) bT) (aW (eh (s8 (fun i j=>decide (i≤j)) (fun i j=>decide (i<j)) (dC (.int 0)) (d2 aU (dV 1) (dC (.int 0))) (dA a_ (aC (dV 0) aN))) (s8 (fun i j=>decide (i≤j)) (fun i j=>decide (i<j)) (dC (.int 0)) (d2 aU (dV 1) (dC (.int 1))) (dA a_ (aC (d2 aU (dV 0) (dC (.int 0))) aN))))) [fz (brd bd),fz (.tup [u,v])]=M.ret (.rt (.bl false)):=fun hz=>by
    rw[hz] at hw
    exact de (eR hw (aK rfl))
   match u,v,hw,bad with
   | .int a, .int b,hw,bad=>
     refine ah (cJ hw rfl) (aK ?_)
     obtain⟨x0,r,e0⟩:∃x0 r,bd=x0::r:=by
      have:=hg.r1
      cases bd with
      |nil=>simp at this
      |cons x r=>exact⟨x,r,rfl⟩
     have hx:x0.length=W:=(hg.rows x0 (by rw[e0];simp)).len
     have l0:dA a_ (aC (dV 0) aN) [fz (brd bd),fz (.tup [.int a, .int b])]=M.ret (.int (bd.length:Int)):=by
      show M.ret (D.int ((bd.map D.str).length:Int))=_
      rw[List.length_map]
     have l1:dA a_ (aC (d2 aU (dV 0) (dC (.int 0))) aN) [fz (brd bd),fz (.tup [.int a, .int b])]=M.ret (.int (W:Int)):=by
      have i0:aU (brd bd) (.int 0)=M.ret (.str x0):=Iu (r:=r.map D.str) (by rw[e0];rfl)
      simp only[dA,aC,aN,d2,dC,dV,List.getElem?_cons_zero,aq,i0,len_str,hx]
     have c1:=ES (δ:=d2 aU (dV 1) (dC (.int 0))) (i:=a) rfl l0
     have c2:=ES (δ:=d2 aU (dV 1) (dC (.int 1))) (i:=b) rfl l1
     unfold eh
     rw[c1,aq]
     show (if (decide (0≤a)&&decide (a<(bd.length:Int)))=true then _ else _)=M.ret (D.bl ((decide (0≤a)&&decide (a<(bd.length:Int)))&&(decide (0≤b)&&decide (b<(W:Int)))))
     cases (decide (0≤a)&&decide (a<(bd.length:Int)))
     ·rfl
     ·rw[if_pos rfl,c2,Bool.true_and]
   | .non,_,_,bad=>exact bad rfl
   | .bl _,_,_,bad=>exact bad rfl
   | .str _,_,_,bad=>exact bad rfl
   | .tup _,_,_,bad=>exact bad rfl
   | .lst _,_,_,bad=>exact bad rfl
   | .raw _,_,_,_=>exact pu.elim
   | .exc _,_,_,_=>exact pu.elim
   | .scr _,_,_,_=>exact pu.elim
   | .int a, .non,_,bad=>exact bad rfl
   | .int a, .bl _,_,bad=>exact bad rfl
   | .int a, .str _,_,bad=>exact bad rfl
   | .int a, .tup _,_,bad=>exact bad rfl
   | .int a, .lst _,_,bad=>exact bad rfl
   | .int a, .raw _,_,_=>exact pv.elim
   | .int a, .exc _,_,_=>exact pv.elim
   | .int a, .scr _,_,_=>exact pv.elim
 |non=>exact no rfl
 |bl b=>exact no rfl
 |int b=>exact no rfl
 |str b=>exact no rfl
 |lst b=>exact no rfl
 |raw _=>exact h.elim
 |exc _=>exact h.elim
 |scr _=>exact h.elim
 |dct _ _=>exact h.elim
 |dci _ _=>exact h.elim
abbrev Cell:=Nat×Nat
def cD(c:Cell):D:= .tup [.int (c.1:Int), .int (c.2:Int)]
def On(R W:Nat)(c:Cell):Prop:=c.1<R∧c.2<W
instance {R W:Nat}{c:Cell}:Decidable (On R W c):=by unfold On;infer_instance
theorem xB{c:Cell}:Plain2 (cD c):=fun d hd=>by
 have:d= .int (c.1:Int)∨d= .int (c.2:Int):=by simpa[cD] using hd
 rcases this with rfl | rfl<;>trivial
theorem Af{R W:Nat}{c:Cell}(h:On R W c):BP R W (cD c)=true:=by
 show ((decide ((0:Int)≤(c.1:Int))&&decide ((c.1:Int)<(R:Int)))&&(decide ((0:Int)≤(c.2:Int))&&decide ((c.2:Int)<(W:Int))))=true
 obtain⟨h1,h2⟩:=h
 simp
 omega
theorem Brd.nc{bd:List Str}{W:Nat}(hg:Brd bd W){c:Cell}(h:On bd.length W c):bJ [brd bd,cD c]=M.ret .non:=by
 refine qi (ρ:=[fz (brd bd),fz (cD c)]) (cJ (tf (pw (b:=true) ?_)) rfl)
 refine(ao (ds:=[brd bd,cD c]) rfl rfl).trans ?_
 rw[rl hg xB,Af h]
def Ways(w:Nat):Prop:=w=4∨w=8
theorem Ways.nw{w:Nat}(h:Ways w):ba [.int (w:Int)]=M.ret .non:=by
 rcases h with rfl | rfl<;>rfl
def ch(x:Str)(j:Nat):Nat:=x.cps.toList.getD j 0
def at2(bd:List Str)(i j:Nat):Nat:=ch (bd.getD i ⟨#[]⟩) j
abbrev lt(bd:List Str)(c:Cell):Nat:=at2 bd c.1 c.2
def sg(n:Nat):D:= .str ⟨#[n]⟩
theorem BB{x:Str}{c:Nat}(h:c<x.length):pD (.str x) (.int (c:Int))=M.ret (sg (ch x c)):=by
 have h':c<x.cps.toList.length:=by rw[Array.length_toList];exact h
 show (match L2.atI x.cps.toList (c:Int) with | some c=>M.ret (D.str ⟨#[c]⟩) | none=>M.stuck)=_
 rw[d8 (List.getElem?_eq_getElem h')]
 unfold sg ch
 rw[List.getD_eq_getElem?_getD,List.getElem?_eq_getElem h']
 rfl
theorem getD_mem{bd:List Str}{i:Nat}(h:i<bd.length):bd.getD i ⟨#[]⟩∈bd:=by
 rw[List.getD_eq_getElem?_getD,List.getElem?_eq_getElem h]
 exact List.getElem_mem h
theorem De{bd:List Str}{i:Nat}(h:i<bd.length):aU (brd bd) (.int (i:Int))=M.ret (.str (bd.getD i ⟨#[]⟩)):=by
 show (match L2.atI (bd.map D.str) (i:Int) with | some d=>M.ret d | none=>M.stuck)=_
 rw[d8 (x:= .str (bd.getD i ⟨#[]⟩)) ?_]
 rw[List.getElem?_map,List.getElem?_eq_getElem h,List.getD_eq_getElem?_getD,List.getElem?_eq_getElem h]
 rfl
theorem eW{bd:List Str}{W:Nat}(hg:Brd bd W){c:Cell}(h:On bd.length W c):b0 [brd bd,cD c]=M.ret (sg (lt bd c)):=by
 refine a9 (aK ?_)
 refine(aL (x:= .str (bd.getD c.1 ⟨#[]⟩)) (y:= .int (c.2:Int)) ((aL (x:=brd bd) (y:= .int (c.1:Int)) rfl rfl).trans (De h.1)) rfl).trans ?_
 exact BB (by rw[(hg.rows _ (getD_mem h.1)).len];exact h.2)
theorem EZ(a b:Nat):nS (sg a) (sg b)=M.ret (.bl (decide (a=b))):=by
 show M.ret (D.bl (decide ((⟨#[a]⟩:Str)=⟨#[b]⟩)))=_
 congr 2
 by_cases h:a=b
 ·subst h;simp
 ·have:¬((⟨#[a]⟩:Str)=⟨#[b]⟩):=fun z=>by
   injection z with z
   exact h (by simpa using z)
  rw[decide_eq_false h,decide_eq_false this]
def eU(a b:Nat):Nat:=max a b - min a b
def hX(w:Nat)(a b:Cell):Bool:=if w=4 then decide (eU a.1 b.1+eU a.2 b.2=1) else decide (max (eU a.1 b.1) (eU a.2 b.2)=1)
theorem uI(a b:Nat):xu [.int ((a:Int) - (b:Int))]=M.ret (.int (eU a b:Int)):=by
 show M.ret (D.int _)=_
 congr 2
 unfold eU
 omega
theorem o_{w:Nat}(hw:Ways w)(a b:Cell):cV [cD a,cD b, .int (w:Int)]=M.ret (.bl (hX w a b)):=by
 refine a9 ?_
 refine ah (ρ':=[fz (cD a),fz (cD b),fz (.int (w:Int)),fz (.int (eU a.1 b.1:Int)),none]) ((aT (d:= .int (eU a.1 b.1:Int)) (uI a.1 b.1)).trans rfl) ?_
 refine ah (ρ':=[fz (cD a),fz (cD b),fz (.int (w:Int)),fz (.int (eU a.1 b.1:Int)),fz (.int (eU a.2 b.2:Int))]) ((aT (d:= .int (eU a.2 b.2:Int)) (uI a.2 b.2)).trans rfl) ?_
 rcases hw with rfl | rfl
 ·refine de (eR (gL rfl) (aK ?_))
  show M.ret (D.bl (((eU a.1 b.1:Int)+(eU a.2 b.2:Int))==1))=_
  unfold hX
  rw[if_pos rfl]
  congr 2
  have:((eU a.1 b.1:Int)+(eU a.2 b.2:Int))=((eU a.1 b.1+eU a.2 b.2:Nat):Int):=by omega
  rw[this]
  have e:=i1 (eU a.1 b.1+eU a.2 b.2) 1
  exact e.trans rfl
 ·refine ah (cJ (gL rfl) rfl) (aK ?_)
  show M.ret (D.bl ((if (eU a.1 b.1:Int)<(eU a.2 b.2:Int) then(eU a.2 b.2:Int) else(eU a.1 b.1:Int))==1))=_
  have hn:hX 8 a b=decide (max (eU a.1 b.1) (eU a.2 b.2)=1):=rfl
  rw[hn]
  congr 2
  have:(if (eU a.1 b.1:Int)<(eU a.2 b.2:Int) then(eU a.2 b.2:Int) else(eU a.1 b.1:Int))=((max (eU a.1 b.1) (eU a.2 b.2):Nat):Int):=by split<;>omega
  rw[this]
  have e:=i1 (max (eU a.1 b.1) (eU a.2 b.2)) 1
  exact e.trans rfl
theorem yL(w:Nat)(a b:Cell):hX w a b=hX w b a:=by
 have e:∀x y:Nat,eU x y=eU y x:=fun x y=>by unfold eU;omega
 unfold hX
 rw[e a.1,e a.2]
theorem FR{a b:Cell}(h:hX 4 a b=true):hX 8 a b=true:=by
 unfold hX at h⊢
 rw[if_pos rfl] at h
 rw[if_neg (by decide)]
 have h:=of_decide_eq_true h
 exact decide_eq_true (by omega)
theorem cF{put:D→a5→Option a5}{body:DS}{d:D}{ds:List D}{ρ ρ1 ρ2:a5}(h1:put d ρ=some ρ1)(h2:body ρ1=M.ret (.nx ρ2)):forL put body (d::ds) ρ=forL put body ds ρ2:=by
 show (match put d ρ with | none=>M.stuck | some ρ1=>body ρ1>>=fun o=>match o with | .nx ρ2=>forL put body ds ρ2 | .rt v=>M.ret (.rt v))=_
 rw[h1]
 show (body ρ1>>=fun o=>match o with | .nx ρ2=>forL put body ds ρ2 | .rt v=>M.ret (.rt v))=_
 rw[h2]
 rfl
section
variable{α σ:Type}{put:D→a5→Option a5}{body:DS}
theorem jv(enc:α→D)(mk:σ→a5)(step:σ→α→σ)(I:σ→Prop):∀(xs:List α) (s:σ),I s→(∀s,I s→∀x∈xs,I (step s x)∧∃ρ1,put (enc x) (mk s)=some ρ1∧body ρ1=M.ret (.nx (mk (step s x))))→
 I (xs.foldl step s)∧forL put body (xs.map enc) (mk s)=M.ret (.nx (mk (xs.foldl step s)))
 |[],s,h,_=>⟨h,rfl⟩
 |x::xs,s,h,st=>by
  obtain⟨h2,ρ1,e1,e2⟩:=st s h x (List.mem_cons_self ..)
  obtain⟨h3,e3⟩:=jv enc mk step I xs (step s x) h2 fun s hs y hy=>st s hs y (List.mem_cons_of_mem _ hy)
  exact⟨h3,(cF e1 e2).trans e3⟩
theorem gT(enc:α→D)(ρ:a5):∀(xs:List α),(∀x∈xs,∃ρ1,put (enc x) ρ=some ρ1∧body ρ1=M.ret (.nx ρ))→forL put body (xs.map enc) ρ=M.ret (.nx ρ)
 |[],_=>rfl
 |x::xs,st=>by
  obtain⟨ρ1,e1,e2⟩:=st x (List.mem_cons_self ..)
  exact(cF e1 e2).trans (gT enc ρ xs fun y hy=>st y (List.mem_cons_of_mem _ hy))
theorem f_(enc:α→D)(mk:List D→a5)(g:α→List D){B:Nat}:∀(xs:List α) (acc:List D),(acc++xs.flatMap g).length≤B→(∀x∈xs,∀acc,(acc++g x).length≤B→∃ρ1,put (enc x) (mk acc)=some ρ1∧body ρ1=M.ret (.nx (mk (acc++g x))))→
 forL put body (xs.map enc) (mk acc)=M.ret (.nx (mk (acc++xs.flatMap g)))
 |[],acc,_,_=>by simp;rfl
 |x::xs,acc,hB,st=>by
  have Jx:((acc++g x)++xs.flatMap g).length≤B:=by simpa[List.flatMap_cons,List.append_assoc] using hB
  obtain⟨ρ1,e1,e2⟩:=st x (List.mem_cons_self ..) acc (Nat.le_trans (by simp only[List.length_append];omega) Jx)
  have e3:=f_ enc mk g xs (acc++g x) Jx fun y hy=>st y (List.mem_cons_of_mem _ hy)
  rw[List.map_cons,cF e1 e2,e3,List.flatMap_cons,List.append_assoc]
end
theorem eA{put:D→a5→Option a5}{δi:DA}{b:DS}{ρ:a5}{ds:List D}{m:M Out}(h:δi ρ=M.ret ds)(h2:forL put b ds ρ=m):da put δi b ρ=m:=by
 unfold da
 rw[h]
 exact h2
theorem d3{τ:DS}{ρ:a5}{o:Out}(h:τ ρ=M.ret o):(fun ρ=>noex (τ ρ)) ρ=M.ret o:=by
 show noex (τ ρ)=_
 rw[h]
 rfl
theorem sj(lo n:Nat):fv (lo:Int) n=(List.range' lo n).map fun(k:Nat)=>D.int (k:Int):=by
 unfold fv
 rw[List.range_eq_range']
 have:∀(n a:Nat),(List.range' a n).map (fun (i:Nat)=>D.int ((lo:Int)+(i:Int)))=(List.range' (lo+a) n).map fun(k:Nat)=>D.int (k:Int):=by
  intro n
  induction n with
  |zero=>intro a;rfl
  |succ n ih=>
   intro a
   rw[List.range'_succ,List.range'_succ,List.map_cons,List.map_cons,ih (a+1)]
   rfl
 exact this n 0
theorem Ec{δ:DE}{ρ:a5}{n:Nat}(h:δ ρ=M.ret (.int (n:Int)))(hn:n≤4096):(aC δ aN ρ>>=ib)=M.ret ((List.range n).map fun(k:Nat)=>D.int (k:Int)):=by
 rw[bg h rfl,aq,jR hn,show fv 0 n=fv ((0:Nat):Int) n from rfl,sj,List.range_eq_range']
theorem Gm{δ ε:DE}{ρ:a5}{i j:Nat}(h:δ ρ=M.ret (.int (i:Int)))(h2:ε ρ=M.ret (.int (j:Int)))(hi:i≤4096)(hj:j≤4096):(aC δ (aC ε aN) ρ>>=oV)=M.ret ((List.range' i (j - i)).map fun(k:Nat)=>D.int (k:Int)):=by
 rw[bg h (bg h2 rfl),aq]
 show (if (-4096≤(i:Int)∧(i:Int)≤4096)∧(-4096≤(j:Int)∧(j:Int)≤4096) then M.ret (fv (i:Int) ((j:Int) - (i:Int)).toNat) else M.stuck)=_
 rw[if_pos ⟨⟨by omega,by omega⟩,by omega,by omega⟩,show ((j:Int) - (i:Int)).toNat=j - i by omega,sj]
def bN(W r:Nat):List Cell:=(List.range W).map fun k=>(r,k)
def aB(R W:Nat):List Cell:=(List.range R).flatMap (bN W)
theorem aM{R W:Nat}{c:Cell}:c∈aB R W↔On R W c:=by
 unfold aB bN On
 simp only[List.mem_flatMap,List.mem_range,List.mem_map]
 constructor
 ·rintro⟨r,hr,k,hk,rfl⟩;exact⟨hr,hk⟩
 ·rintro⟨h1,h2⟩;exact⟨c.1,h1,c.2,h2,rfl⟩
theorem cy(R W:Nat):(aB R W).length=R*W:=by
 unfold aB
 have:∀l:List Nat,(l.flatMap (bN W)).length=l.length*W:=by
  intro l
  induction l with
  |nil=>simp
  |cons a l ih=>rw[List.flatMap_cons,List.length_append,ih,List.length_cons,Nat.succ_mul];simp[bN];omega
 rw[this,List.length_range]
theorem e9{bd:List Str}{W:Nat}(hg:Brd bd W)(r:Nat):aO [brd bd, .int (r:Int)]=M.ret (.lst ((bN W r).map cD)):=by
 have:=hg.w8
 refine a9 (aK (bV (Ec (n:=W) (hg.len0 rfl) (by omega)) ?_ (by simp[bN,cW];omega)))
 rw[show (bN W r).map cD=((List.range W).map fun(k:Nat)=>D.int (k:Int)).map (fun e=> .tup [.int (r:Int),e]) by simp[bN,List.map_map];intro a _;rfl]
 exact e_ (g:=fun e=> .tup [.int (r:Int),e]) _ fun e _=>rfl
theorem g9{bd:List Str}{W:Nat}(hg:Brd bd W):cZ [brd bd]=M.ret (.lst ((aB bd.length W).map cD)):=by
 have h8:=hg.r8
 have w8:=hg.w8
 have hm:bd.length*W≤64:=Nat.mul_le_mul h8 w8
 have GR:(List.range bd.length).flatMap (fun r=>(bN W r).map cD)=(aB bd.length W).map cD:=by
  unfold aB;rw[List.map_flatMap]
 have e:=f_ (put:=putN 2) (body:=cb [2] (zD 1 (ak 2 aO (aC (dV 0) (aC (dV 2) aN))))) (fun (k:Nat)=>D.int (k:Int)) (fun acc=>[fz (brd bd),some (.ow (.lst acc)),none]) (fun r=>(bN W r).map cD) (B:=64) (List.range bd.length) []
  (by rw[List.nil_append,GR,List.length_map,cy];exact hm) fun r hr acc hB=>by
   refine⟨[fz (brd bd),some (.ow (.lst acc)),fz (.int (r:Int))],rfl,?_⟩
   refine(bt (ρ':=[fz (brd bd),some (.ow (.lst (acc++(bN W r).map cD))),fz (.int (r:Int))]) ?_).trans rfl
   show (aO [brd bd, .int (r:Int)]>>=fun d=>lstM d>>=fun es=>if acc.length+es.length≤lim then M.ret (Out.nx (List.set [fz (brd bd),some (.ow (.lst acc)),fz (.int (r:Int))] 1 (some (.ow (.lst (acc++es)))))) else M.stuck)=_
   rw[e9 hg,aq]
   show (if acc.length+((bN W r).map cD).length≤lim then M.ret (Out.nx [fz (brd bd),some (.ow (.lst (acc++(bN W r).map cD))),fz (.int (r:Int))]) else M.stuck)=_
   rw[if_pos (by rw[List.length_append] at hB;rw[cW];omega)]
 rw[List.nil_append,GR] at e
 refine a9 (ah (ρ':=[fz (brd bd),some (.ow (.lst [])),none]) rfl (ah (ρ':=[fz (brd bd),some (.ow (.lst ((aB bd.length W).map cD))),none]) (d3 (eA (Ec (n:=bd.length) (AL rfl) (by omega)) e)) ?_))
 rfl
def gk(R W w:Nat)(c:Cell):List Cell:=
 (List.range' (c.1 - 1) (min (c.1+2) R - (c.1 - 1))).flatMap fun r=>((List.range' (c.2 - 1) (min (c.2+2) W - (c.2 - 1))).map fun k=>(r,k)).filter (hX w c)
theorem oq{R W w:Nat}(hw:Ways w){c x:Cell}:x∈gk R W w c↔On R W x∧hX w c x=true:=by
 unfold gk On
 simp only[List.mem_flatMap,List.mem_filter,List.mem_map,List.mem_range'_1]
 constructor
 ·rintro⟨r,⟨h1,h2⟩,⟨k,⟨h3,h4⟩,rfl⟩,h5⟩
  refine⟨⟨?_,?_⟩,h5⟩
  ·show r<R;omega
  ·show k<W;omega
 ·rintro⟨⟨h1,h2⟩,h5⟩
  have h6:eU c.1 x.1≤1∧eU c.2 x.2≤1:=by
   unfold hX at h5
   rcases hw with rfl | rfl
   ·rw[if_pos rfl] at h5;have:=of_decide_eq_true h5;omega
   ·rw[if_neg (by decide)] at h5;have:=of_decide_eq_true h5;omega
  unfold eU at h6
  exact⟨x.1,⟨by omega,by omega⟩,⟨x.2,⟨by omega,by omega⟩,rfl⟩,h5⟩
theorem oe(R W w:Nat)(c:Cell):(gk R W w c).length≤9:=by
 unfold gk
 rw[List.length_flatMap]
 have h:∀r,(((List.range' (c.2 - 1) (min (c.2+2) W - (c.2 - 1))).map fun k=>(r,k)).filter (hX w c)).length≤3:=fun r=>by
  refine Nat.le_trans (List.length_filter_le ..) ?_
  rw[List.length_map,List.length_range']
  omega
 have:∀(l:List Nat),(l.map fun r=>(((List.range' (c.2 - 1) (min (c.2+2) W - (c.2 - 1))).map fun k=>(r,k)).filter (hX w c)).length).sum≤3*l.length:=by
  intro l
  induction l with
  |nil=>simp
  |cons a l ih=>rw[List.map_cons,List.sum_cons,List.length_cons];have:=h a;omega
 refine Nat.le_trans (this _) ?_
 rw[List.length_range']
 omega
abbrev nc(b c w:D)(acc:List D)(x4 x5:Option Sl):a5:=[fz b,fz c,fz w,some (.ow (.lst acc)),x4,x5]
theorem l8{bd:List Str}{W w:Nat}(hg:Brd bd W)(hw:Ways w){c:Cell}(hc:On bd.length W c):cE [brd bd,cD c, .int (w:Int)]=M.ret (.lst ((gk bd.length W w c).map cD)):=by
 have h8:=hg.r8
 have w8:=hg.w8
 obtain⟨c1,c2⟩:=hc
 have Fm:∀n:Nat,tO [.int ((n:Int) - 1), .int 0]=M.ret (.int ((n - 1:Nat):Int)):=fun n=>by
  show M.ret (D.int (if (0:Int)>(n:Int) - 1 then 0 else(n:Int) - 1))=_
  congr 2
  split<;>omega
 have Fo:∀n m:Nat,wy [.int ((n:Int)+2), .int (m:Int)]=M.ret (.int ((min (n+2) m:Nat):Int)):=fun n m=>by
  show M.ret (D.int (if (m:Int)<(n:Int)+2 then(m:Int) else(n:Int)+2))=_
  congr 2
  split<;>omega
 have inner:∀(r:Nat) (acc:List D),acc.length≤16→forL (putN 5) (cb [5] (eB (b7 (ak 3 cV (aC (dV 1) (aC (dA c9 (aC (dV 4) (aC (dV 5) aN))) (aC (dV 2) aN))))) (kO 3 (dA c9 (aC (dV 4) (aC (dV 5) aN)))) bT))
  ((List.range' (c.2 - 1) (min (c.2+2) W - (c.2 - 1))).map fun(k:Nat)=>D.int (k:Int)) (nc (brd bd) (cD c) (.int (w:Int)) acc (fz (.int (r:Int))) none)=
  M.ret (.nx (nc (brd bd) (cD c) (.int (w:Int)) (acc++(List.range' (c.2 - 1) (min (c.2+2) W - (c.2 - 1))).flatMap fun k=>if hX w c (r,k) then [cD (r,k)] else []) (fz (.int (r:Int))) none)):=fun r acc ye=>by
  refine f_ (fun (k:Nat)=>D.int (k:Int)) (fun acc=>nc (brd bd) (cD c) (.int (w:Int)) acc (fz (.int (r:Int))) none) (fun k=>if hX w c (r,k) then [cD (r,k)] else []) (B:=64) _ acc ?_ fun k hk acc hB=>?_
  ·rw[List.length_append,List.length_flatMap]
   have:∀l:List Nat,(l.map fun k=>(if hX w c (r,k) then [cD (r,k)] else []).length).sum≤l.length:=by
    intro l
    induction l with
    |nil=>simp
    |cons a l ih=>rw[List.map_cons,List.sum_cons,List.length_cons];split<;>simp<;>omega
   have h2:=this (List.range' (c.2 - 1) (min (c.2+2) W - (c.2 - 1)))
   rw[List.length_range'] at h2
   omega
  ·refine⟨nc (brd bd) (cD c) (.int (w:Int)) acc (fz (.int (r:Int))) (fz (.int (k:Int))),rfl,?_⟩
   have ht:b7 (ak 3 cV (aC (dV 1) (aC (dA c9 (aC (dV 4) (aC (dV 5) aN))) (aC (dV 2) aN)))) (nc (brd bd) (cD c) (.int (w:Int)) acc (fz (.int (r:Int))) (fz (.int (k:Int))))=M.ret (hX w c (r,k)):=
    pw ((ao (ds:=[cD c,cD (r,k), .int (w:Int)]) rfl rfl).trans (o_ hw c (r,k)))
   cases hn:hX w c (r,k) with
   |true=>
    rw[hn] at ht
    rw[hn,if_pos rfl,List.length_append] at hB
    refine(bt (ρ':=nc (brd bd) (cD c) (.int (w:Int)) (acc++[cD (r,k)]) (fz (.int (r:Int))) (fz (.int (k:Int)))) (eR ht ?_)).trans rfl
    show (if acc.length<lim then M.ret (Out.nx (nc (brd bd) (cD c) (.int (w:Int)) (acc++[cD (r,k)]) (fz (.int (r:Int))) (fz (.int (k:Int))))) else M.stuck)=_
    rw[if_pos (by rw[cW];simp at hB;omega)]
   |false=>
    rw[hn] at ht
    refine(bt (ρ':=nc (brd bd) (cD c) (.int (w:Int)) acc (fz (.int (r:Int))) (fz (.int (k:Int)))) (cJ ht rfl)).trans ?_
    simp
    rfl
 have flt:∀r,((List.range' (c.2 - 1) (min (c.2+2) W - (c.2 - 1))).flatMap fun k=>if hX w c (r,k) then [cD (r,k)] else [])=(((List.range' (c.2 - 1) (min (c.2+2) W - (c.2 - 1))).map fun k=>(r,k)).filter (hX w c)).map cD:=fun r=>by
  generalize List.range' (c.2 - 1) (min (c.2+2) W - (c.2 - 1))=l
  induction l with
  |nil=>rfl
  |cons a l ih=>
   rw[List.flatMap_cons,ih,List.map_cons,List.filter_cons]
   cases hX w c (r,a)<;>rfl
 have tot:(List.range' (c.1 - 1) (min (c.1+2) bd.length - (c.1 - 1))).flatMap (fun r=>(((List.range' (c.2 - 1) (min (c.2+2) W - (c.2 - 1))).map fun k=>(r,k)).filter (hX w c)).map cD)=(gk bd.length W w c).map cD:=by
  unfold gk;rw[List.map_flatMap]
 have outer:=f_ (put:=putN 4) (body:=cb [4,5] (da (putN 5) (fun ρ=>(aC (dA tO (aC (d2 tE (d2 aU (dV 1) (dC (.int 1))) (dC (.int 1))) (aC (dC (.int 0)) aN))) (aC (dA wy (aC (d2 c6 (d2 aU (dV 1) (dC (.int 1))) (dC (.int 2))) (aC (dA a_ (aC (d2 aU (dV 0) (dC (.int 0))) aN)) aN))) aN)) ρ>>=oV) (cb [5] (eB (b7 (ak 3 cV (aC (dV 1) (aC (dA c9 (aC (dV 4) (aC (dV 5) aN))) (aC (dV 2) aN))))) (kO 3 (dA c9 (aC (dV 4) (aC (dV 5) aN)))) bT))))
  (fun (k:Nat)=>D.int (k:Int)) (fun acc=>nc (brd bd) (cD c) (.int (w:Int)) acc none none) (fun r=>(((List.range' (c.2 - 1) (min (c.2+2) W - (c.2 - 1))).map fun k=>(r,k)).filter (hX w c)).map cD) (B:=16) (List.range' (c.1 - 1) (min (c.1+2) bd.length - (c.1 - 1))) []
  (by rw[List.nil_append,tot,List.length_map];have:=oe bd.length W w c;omega) fun r hr acc hB=>by
   refine⟨nc (brd bd) (cD c) (.int (w:Int)) acc (fz (.int (r:Int))) none,rfl,?_⟩
   have e:=inner r acc (by rw[List.length_append] at hB;omega)
   rw[flt r] at e
   refine(bt (eA (Gm (i:=c.2 - 1) (j:=min (c.2+2) W) ?_ ?_ (by omega) (by omega)) e)).trans rfl
   ·exact(cK (xs:=[.int ((c.2:Int) - 1), .int 0]) rfl).trans (Fm c.2)
   ·refine(cK (xs:=[.int ((c.2:Int)+2), .int (W:Int)]) ?_).trans (Fo c.2 W)
    exact bg (show d2 c6 (d2 aU (dV 1) (dC (.int 1))) (dC (.int 2)) (nc (brd bd) (cD c) (.int (w:Int)) acc (fz (.int (r:Int))) none)=M.ret (.int ((c.2:Int)+2)) from rfl) (bg (hg.len0 rfl) rfl)
 rw[List.nil_append,tot] at outer
 refine a9 (ah (ρ':=nc (brd bd) (cD c) (.int (w:Int)) [] none none) rfl (ah (ρ':=nc (brd bd) (cD c) (.int (w:Int)) ((gk bd.length W w c).map cD) none none) (d3 (eA (Gm (i:=c.1 - 1) (j:=min (c.1+2) bd.length) ?_ ?_ (by omega) (by omega)) outer)) ?_))
 ·exact(cK (xs:=[.int ((c.1:Int) - 1), .int 0]) rfl).trans (Fm c.1)
 ·refine(cK (xs:=[.int ((c.1:Int)+2), .int (bd.length:Int)]) ?_).trans (Fo c.1 bd.length)
  exact bg (show d2 c6 (d2 aU (dV 1) (dC (.int 0))) (dC (.int 2)) (nc (brd bd) (cD c) (.int (w:Int)) [] none none)=M.ret (.int ((c.1:Int)+2)) from rfl) (bg (AL rfl) rfl)
 ·rfl
def aS(bd:List Str)(W w:Nat)(c:Cell):List Cell:=(gk bd.length W w c).filter fun x=>decide (lt bd x=lt bd c)
theorem bF{bd:List Str}{W w:Nat}(hw:Ways w){c x:Cell}:x∈aS bd W w c↔On bd.length W x∧hX w c x=true∧lt bd x=lt bd c:=by
 unfold aS
 rw[List.mem_filter,oq hw,decide_eq_true_eq,and_assoc]
theorem wt(bd:List Str)(W w:Nat)(c:Cell):(aS bd W w c).length≤9:=Nat.le_trans (List.length_filter_le ..) (oe ..)
theorem gP{α:Type}{f:D→M (Option D)}(enc:α→D)(p:α→Bool):∀(xs:List α),(∀x∈xs,f (enc x)=M.ret (if p x then some (enc x) else none))→cY f (xs.map enc)=M.ret ((xs.filter p).map enc)
 |[],_=>rfl
 |x::xs,h=>by
  rw[List.map_cons,eg,h x (List.mem_cons_self ..),aq,gP enc p xs fun y hy=>h y (List.mem_cons_of_mem _ hy),List.filter_cons]
  cases p x<;>rfl
theorem lP{bd:List Str}{W w:Nat}(hg:Brd bd W)(hw:Ways w){c:Cell}(hc:On bd.length W c):b8 [brd bd,cD c, .int (w:Int)]=M.ret (.lst ((aS bd W w c).map cD)):=by
 refine a9 (ah (ρ':=[fz (brd bd),fz (cD c),fz (.int (w:Int)),fz (sg (lt bd c))]) ((aT (d:=sg (lt bd c)) ((ao (ds:=[brd bd,cD c]) rfl rfl).trans (eW hg hc))).trans rfl) (aK ?_))
 refine bV (ds:=(gk bd.length W w c).map cD) ?_ (gP cD _ _ fun x hx=>?_) (by rw[List.length_map,cW];exact Nat.le_trans (wt bd W w c) (by decide))
 ·show (ak 3 cE _ _>>=lstM)=_
  have e:ak 3 cE (aC (dV 0) (aC (dV 1) (aC (dV 2) aN))) [fz (brd bd),fz (cD c),fz (.int (w:Int)),fz (sg (lt bd c))]=M.ret (.lst ((gk bd.length W w c).map cD)):=l8 hg hw hc
  rw[e]
  rfl
 ·have LD:=(oq hw).mp hx
  rw[s9]
  have e:c0 (d2 nS (ak 2 b0 (aC (dV 1) (aC (dV 0) aN))) (dV 4)) (fz (cD x)::[fz (brd bd),fz (cD c),fz (.int (w:Int)),fz (sg (lt bd c))])=M.ret (decide (lt bd x=lt bd c)):=by
   refine gL ?_
   exact(aL (x:=sg (lt bd x)) (y:=sg (lt bd c)) ((ao (ds:=[brd bd,cD x]) rfl rfl).trans (eW hg LD.1)) rfl).trans (EZ _ _)
  rw[e,aq]
  cases decide (lt bd x=lt bd c)<;>rfl
end K1
namespace K1
section
variable{α:Type}[DecidableEq α]
structure Bk (α:Type) where
 ks:List α
 ps:List (Option α)
 fu:List α
def dF(c:α)(s:Bk α)(x:α):Bk α:=if x∈s.ks then s else⟨s.ks++[x],s.ps++[some c],s.fu++[x]⟩
variable(nb:α→List α)
def j2(s:Bk α)(c:α):Bk α:=(nb c).foldl (dF c) s
def cg(s:Bk α)(ring:List α):Bk α:=ring.foldl (j2 nb) s
def Rb(a:α):Nat→α→Prop
 |0,x=>x=a
 |k+1,x=>Rb a k x∨∃y,Rb a k y∧x∈nb y
variable{nb}{a:α}
theorem Rb.mono{i j:Nat}{x:α}(h:i≤j)(r:Rb nb a i x):Rb nb a j x:=by
 induction h with
 |refl=>exact r
 |step _ ih=>exact .inl ih
structure Grown (P:α→α→Prop) (s t:Bk α):Prop where
 ex:∃fs:List (α×α),t.ks=s.ks++fs.map (·.1)∧t.ps=s.ps++fs.map (fun p=>some p.2)∧t.fu=s.fu++fs.map (·.1)∧(∀p∈fs,P p.2 p.1)
 nd:s.ks.Nodup→t.ks.Nodup
theorem Grown.refl{P:α→α→Prop}(s:Bk α):Grown P s s:=⟨⟨[],by simp,by simp,by simp,fun _ h=>by cases h⟩,id⟩
theorem Grown.trans{P:α→α→Prop}{s t u:Bk α}(h1:Grown P s t)(h2:Grown P t u):Grown P s u:=by
 obtain⟨fs,a1,a2,a3,a4⟩:=h1.ex
 obtain⟨gs,b1,b2,b3,b4⟩:=h2.ex
 refine⟨⟨fs++gs,by rw[b1,a1];simp,by rw[b2,a2];simp,by rw[b3,a3];simp,fun p hp=>?_⟩,fun h=>h2.nd (h1.nd h)⟩
 rcases List.mem_append.mp hp with h | h
 ·exact a4 p h
 ·exact b4 p h
theorem qK{P:α→α→Prop}{c x:α}(s:Bk α)(h:P c x):Grown P s (dF c s x):=by
 unfold dF
 split
 ·exact Grown.refl s
 ·rename_i hx
  refine⟨⟨[(x,c)],rfl,rfl,rfl,fun p hp=>?_⟩,fun hn=>?_⟩
  ·have:p=(x,c):=by simpa using hp
   subst this;exact h
  ·refine List.nodup_append.mpr ⟨hn,by simp,fun y hy z hz e=>?_⟩
   have hz:z=x:=by simpa using hz
   rw[e,hz] at hy
   exact hx hy
theorem vN{c x y:α}(s:Bk α):y∈(dF c s x).ks↔y∈s.ks∨y=x:=by
 unfold dF
 split
 ·rename_i hx
  exact⟨.inl,fun h=>h.elim id fun e=>by rw[e];exact hx⟩
 ·simp
theorem foldStep{P:α→α→Prop}{c:α}:∀(l:List α) (s:Bk α),(∀x∈l,P c x)→Grown P s (l.foldl (dF c) s)∧∀y,y∈(l.foldl (dF c) s).ks↔y∈s.ks∨y∈l
 |[],s,_=>⟨Grown.refl s,fun y=>by simp⟩
 |x::l,s,h=>by
  obtain⟨h1,h2⟩:=foldStep l (dF c s x) fun y hy=>h y (List.mem_cons_of_mem _ hy)
  refine⟨(qK s (h x (List.mem_cons_self ..))).trans h1,fun y=>?_⟩
  rw[List.foldl_cons,h2 y,vN]
  simp[or_assoc]
theorem q9{P:α→α→Prop}:∀(l:List α) (s:Bk α),(∀c∈l,∀x∈nb c,P c x)→Grown P s (cg nb s l)∧∀y,y∈(cg nb s l).ks↔y∈s.ks∨∃c∈l,y∈nb c
 |[],s,_=>⟨Grown.refl s,fun y=>by simp[cg]⟩
 |c::l,s,h=>by
  obtain⟨g1,m1⟩:=foldStep (P:=P) (c:=c) (nb c) s (h c (List.mem_cons_self ..))
  obtain⟨g2,m2⟩:=q9 l (j2 nb s c) fun c' hc=>h c' (List.mem_cons_of_mem _ hc)
  refine⟨g1.trans g2,fun y=>?_⟩
  show y∈(cg nb (j2 nb s c) l).ks↔_
  rw[m2 y]
  show (y∈((nb c).foldl (dF c) s).ks∨_)↔_
  rw[m1 y]
  simp[or_assoc]
structure Rng (nb:α→List α) (a:α) (k:Nat) (ks:List α) (ps:List (Option α)) (ring:List α):Prop where
 len:ks.length=ps.length
 nd:ks.Nodup
 mem:∀x,x∈ks↔Rb nb a k x
 rg:∀x,x∈ring↔Rb nb a k x∧∀j,Rb nb a j x→k≤j
 par:∀x p,(x,some p)∈ks.zip ps→x∈nb p∧p∈ks∧∀j,Rb nb a j x→∃i,j=i+1∧Rb nb a i p
 non:∀x,(x,none)∈ks.zip ps→x=a
 sz:k≤ks.length∧(ring≠[]→k+1≤ks.length)
theorem Rng.zero(nb:α→List α)(a:α):Rng nb a 0 [a] [none] [a] where
 len:=rfl
 nd:=by simp
 mem:=fun x=>by simp[Rb]
 rg:=fun x=>by simp[Rb]
 par:=fun x p h=>by simp at h
 non:=fun x h=>by simpa using h
 sz:=⟨by simp,fun _=>by simp⟩
theorem Rng.next{k:Nat}{ks:List α}{ps:List (Option α)}{ring:List α}(h:Rng nb a k ks ps ring)(hr:ring≠[]):Rng nb a (k+1) (cg nb ⟨ks,ps,[]⟩ ring).ks (cg nb ⟨ks,ps,[]⟩ ring).ps (cg nb ⟨ks,ps,[]⟩ ring).fu:=by
 obtain⟨g,m⟩:=q9 (nb:=nb) (P:=fun c x=>c∈ring∧x∈nb c) ring ⟨ks,ps,[]⟩ fun c hc x hx=>⟨hc,hx⟩
 obtain⟨fs,e1,e2,e3,e4⟩:=g.ex
 have GS:=g.nd h.nd
 have hm:∀x,x∈(cg nb ⟨ks,ps,[]⟩ ring).ks↔Rb nb a (k+1) x:=fun x=>by
  rw[m x]
  show (x∈ks∨_)↔(Rb nb a k x∨_)
  constructor
  ·rintro(q | ⟨c,hc,hx⟩)
   ·exact .inl ((h.mem x).mp q)
   ·exact .inr ⟨c,((h.rg c).mp hc).1,hx⟩
  ·rintro(q | ⟨y,hy,hx⟩)
   ·exact .inl ((h.mem x).mpr q)
   ·by_cases hk:∀j,Rb nb a j y→k≤j
    ·exact .inr ⟨y,(h.rg y).mpr ⟨hy,hk⟩,hx⟩
    ·refine .inl ((h.mem x).mpr ?_)
     obtain⟨j,hj⟩:=Classical.not_forall.mp hk
     obtain⟨HI,K2⟩:=Classical.not_imp.mp hj
     exact Rb.mono (i:=j+1) (by omega) (.inr ⟨y,HI,hx⟩)
 have xm:(cg nb ⟨ks,ps,[]⟩ ring).ks=ks++fs.map (·.1):=e1
 have Et:(cg nb ⟨ks,ps,[]⟩ ring).ps=ps++fs.map (fun p=>some p.2):=e2
 have GH:(cg nb ⟨ks,ps,[]⟩ ring).fu=fs.map (·.1):=e3
 have new:∀x,x∈fs.map (·.1)→¬Rb nb a k x:=fun x hx hk=>by
  rw[xm] at GS
  exact(List.nodup_append.mp GS).2.2 x ((h.mem x).mpr hk) x hx rfl
 have FK:∀x,¬Rb nb a k x→∀j,Rb nb a j x→k+1≤j:=fun x hx j hj=>by
  by_cases K3:k+1≤j
  ·exact K3
  ·exact absurd (Rb.mono (by omega) hj) hx
 have Fy:(cg nb ⟨ks,ps,[]⟩ ring).ks.zip (cg nb ⟨ks,ps,[]⟩ ring).ps=ks.zip ps++fs.map fun p=>(p.1,some p.2):=by
  rw[xm,Et,List.zip_append h.len]
  congr 1
  rw[List.zip_map']
 refine⟨?_,GS,hm,fun x=>?_,fun x p hp=>?_,fun x hx=>?_,?_⟩
 ·rw[xm,Et,List.length_append,List.length_append,List.length_map,List.length_map,h.len]
 ·rw[GH]
  constructor
  ·intro hx
   exact⟨(hm x).mp (by rw[xm];exact List.mem_append_right _ hx),FK x (new x hx)⟩
  ·rintro⟨h1,h2⟩
   have h3:=(hm x).mpr h1
   rw[xm] at h3
   rcases List.mem_append.mp h3 with q | q
   ·have:=h2 k ((h.mem x).mp q)
    omega
   ·exact q
 ·rw[Fy] at hp
  rcases List.mem_append.mp hp with q | q
  ·obtain⟨q1,q2,q3⟩:=h.par x p q
   exact⟨q1,by rw[xm];exact List.mem_append_left _ q2,q3⟩
  ·obtain⟨f,hf,e⟩:=List.mem_map.mp q
   cases e
   obtain⟨f1,f2⟩:=e4 f hf
   have hc:=(h.rg f.2).mp f1
   refine⟨f2,by rw[xm];exact List.mem_append_left _ ((h.mem _).mpr hc.1),fun j hj=>?_⟩
   have:=FK f.1 (new f.1 (List.mem_map.mpr ⟨f,hf,rfl⟩)) j hj
   exact⟨j - 1,by omega,Rb.mono (by omega) hc.1⟩
 ·rw[Fy] at hx
  rcases List.mem_append.mp hx with q | q
  ·exact h.non x q
  ·obtain⟨f,hf,e⟩:=List.mem_map.mp q
   cases e
 ·have hs:=h.sz.2 hr
  rw[xm,List.length_append,List.length_map]
  refine⟨by omega,fun dB=>?_⟩
  have:fs≠[]:=fun z=>dB (by rw[GH,z];rfl)
  have:=List.length_pos_iff.mpr this
  omega
theorem Rng.last{k:Nat}{ks:List α}{ps:List (Option α)}(h:Rng nb a k ks ps []):∀x,x∈ks↔∃j,Rb nb a j x:=by
 have none:∀x,¬(Rb nb a k x∧∀j,Rb nb a j x→k≤j):=fun x q=>by
  have:=(h.rg x).mpr q
  cases this
 have hk:∀x,Rb nb a k x→∃i,i<k∧Rb nb a i x:=fun x hx=>by
  by_cases q:∀j,Rb nb a j x→k≤j
  ·exact absurd ⟨hx,q⟩ (none x)
  ·obtain⟨j,hj⟩:=Classical.not_forall.mp q
   obtain⟨HI,K2⟩:=Classical.not_imp.mp hj
   exact⟨j,by omega,HI⟩
 have all:∀j x,Rb nb a j x→Rb nb a k x:=by
  intro j
  induction j with
  |zero=>intro x hx;exact Rb.mono (Nat.zero_le _) hx
  |succ j ih=>
   rintro x (q | ⟨y,hy,hx⟩)
   ·exact ih x q
   ·obtain⟨i,hi,hr⟩:=hk y (ih y hy)
    exact Rb.mono (i:=i+1) (by omega) (.inr ⟨y,hr,hx⟩)
 exact fun x=>⟨fun q=>⟨k,(h.mem x).mp q⟩,fun⟨j,hj⟩=>(h.mem x).mpr (all j x hj)⟩
theorem i2{l U:List α}(hn:l.Nodup)(h:∀x∈l,x∈U):l.length≤U.length:=by
 induction l generalizing U with
 |nil=>simp
 |cons a l ih=>
  rw[List.nodup_cons] at hn
  have hl:∀x∈l,x∈U.erase a:=fun x hx=>by
   have dB:x≠a:=fun z=>hn.1 (by rw[←z];exact hx)
   exact(List.mem_erase_of_ne dB).mpr (h x (List.mem_cons_of_mem _ hx))
  have h1:=ih hn.2 hl
  have h2:=List.length_erase_of_mem (h a (List.mem_cons_self ..))
  have h3:=List.length_pos_of_mem (h a (List.mem_cons_self ..))
  rw[List.length_cons]
  omega
end
end K1
namespace K1
open PySem L2 L3
def keyOf(c:Cell):List Key:=[.inl (c.1:Int), .inl (c.2:Int)]
theorem fe{a b:Cell}(h:keyOf a=keyOf b):a=b:=by
 unfold keyOf at h
 injection h with h1 h2
 injection h1 with h1
 injection h2 with h2 _
 injection h2 with h2
 exact Prod.ext (Int.ofNat.inj h1) (Int.ofNat.inj h2)
theorem gU(c:Cell):dS (cD c)=some (keyOf c):=rfl
theorem fw{c:Cell}:∀{ks:List Cell}{ds:List D},c∉ks→eF (ks.map keyOf) ds (keyOf c)=none
 |[],_,_=>by simp[eF]
 |k::ks,[],_=>by simp[eF]
 |k::ks,d::ds,h=>by
  rw[List.map_cons]
  unfold eF
  rw[if_neg (fun z=>h (by rw[fe z];exact List.mem_cons_self ..))]
  exact fw fun z=>h (List.mem_cons_of_mem _ z)
theorem jX{c:Cell}:∀{ks:List Cell}{ds:List D},ks.length=ds.length→c∈ks→∃d,eF (ks.map keyOf) ds (keyOf c)=some d∧(c,d)∈ks.zip ds
 |[],_,_,h=>by cases h
 |k::ks,[],hl,_=>by simp at hl
 |k::ks,d::ds,hl,h=>by
  rw[List.map_cons]
  unfold eF
  by_cases hk:k=c
  ·subst hk
   rw[if_pos rfl]
   exact⟨d,rfl,by simp⟩
  ·rw[if_neg (fun z=>hk (fe z))]
   have hc:c∈ks:=by
    rcases List.mem_cons.mp h with q | q
    ·exact absurd q.symm hk
    ·exact q
   obtain⟨d',e1,e2⟩:=jX (ds:=ds) (by simpa using hl) hc
   exact⟨d',e1,by simp[e2]⟩
theorem pJ{neg:Bool}{ks:List Cell}{ds:List D}{c:Cell}(hl:ks.length=ds.length):kK neg (cD c) (.dct (ks.map keyOf) ds)=M.ret (.bl (if neg then !decide (c∈ks) else decide (c∈ks))):=by
 show (match (dS (cD c)).map (eF (ks.map keyOf) ds) with | some o=>M.ret (D.bl (if neg then !o.isSome else o.isSome)) | none=>M.stuck)=_
 rw[gU]
 show M.ret (D.bl (if neg then !(eF (ks.map keyOf) ds (keyOf c)).isSome else(eF (ks.map keyOf) ds (keyOf c)).isSome))=_
 by_cases h:c∈ks
 ·obtain⟨d,e,_⟩:=jX hl h
  rw[e,decide_eq_true h];rfl
 ·rw[fw h,decide_eq_false h];rfl
theorem rZ{ks:List Cell}{ds:List D}{c:Cell}{d:D}(h:c∉ks)(hl:ds.length<lim):jK (.dct (ks.map keyOf) ds) (cD c) d=some (.dct ((ks++[c]).map keyOf) (ds++[d])):=by
 show (match dS (cD c) with | some kk=>if ds.length<lim then some (C.dct (cI (ks.map keyOf) ds kk) (b5 (ks.map keyOf) ds kk d)) else none | none=>none)=_
 rw[gU]
 show (if ds.length<lim then some (C.dct (cI (ks.map keyOf) ds (keyOf c)) (b5 (ks.map keyOf) ds (keyOf c) d)) else none)=_
 rw[if_pos hl]
 unfold cI b5
 rw[fw h]
 simp
theorem Co{τ:DT}{ρ:a5}{b:Bool}(h:τ (BX ρ)=M.ret b):Cm τ ρ=M.ret b:=by
 unfold Cm
 rw[h]
 rfl
theorem z3{c:DT}{body:DS}{n:Nat}{ρ ρ':a5}{m:M Out}(h1:c ρ=M.ret true)(h2:body ρ=M.ret (.nx ρ'))(h3:dX c body n ρ'=m):dX c body (n+1) ρ=m:=by
 show (c ρ>>=fun b=>if b then body ρ>>=fun o=>match o with | .nx ρ'=>dX c body n ρ' | .rt d=>M.ret (.rt d) else M.ret (.nx ρ))=_
 rw[h1,aq,if_pos rfl,h2]
 exact h3
theorem z0{c:DT}{body:DS}{n:Nat}{ρ:a5}(h1:c ρ=M.ret false):dX c body (n+1) ρ=M.ret (.nx ρ):=by
 show (c ρ>>=fun b=>if b then body ρ>>=fun o=>match o with | .nx ρ'=>dX c body n ρ' | .rt d=>M.ret (.rt d) else M.ret (.nx ρ))=_
 rw[h1]
 rfl
def yT:Option Cell→D
 |none=> .non
 |some c=>cD c
abbrev xx(ks:List Cell)(ps:List (Option Cell)):C:= .dct (ks.map keyOf) (ps.map yT)
abbrev qL(ks:List Cell)(ps:List (Option Cell)):D:= .dct (ks.map keyOf) (ps.map yT)
abbrev sb(b s w:D)(ks:List Cell)(ps:List (Option Cell))(x4 x5 x6 x7:Option Sl):a5:=[fz b,fz s,fz w,some (.ow (xx ks ps)),x4,x5,x6,x7]
structure Bok (R W:Nat) (s:Bk Cell):Prop where
 len:s.ks.length=s.ps.length
 nd:s.ks.Nodup
 on:∀x∈s.ks,On R W x
 fu:s.fu.length≤s.ks.length
theorem Bok.le{R W:Nat}{s:Bk Cell}(h:Bok R W s):s.ks.length≤R*W:=by
 rw[←cy R W]
 exact i2 h.nd fun x hx=>aM.mpr (h.on x hx)
theorem Bok.step{R W:Nat}{s:Bk Cell}(h:Bok R W s){c x:Cell}(hx:On R W x):Bok R W (dF c s x):=by
 unfold dF
 split
 ·exact h
 ·rename_i hn
  refine⟨by simp[h.len],?_,fun y hy=>?_,by simp;exact h.fu⟩
  ·refine List.nodup_append.mpr ⟨h.nd,by simp,fun y hy z hz e=>?_⟩
   have hz:z=x:=by simpa using hz
   rw[e,hz] at hy
   exact hn hy
  ·rcases List.mem_append.mp hy with q | q
   ·exact h.on y q
   ·have:y=x:=by simpa using q
    rw[this];exact hx
def Ef:DS:=cb [7] (eB (Cm (c0 (d2 (kK true) (dV 7) (dV 3)))) (az (ie 3 (dV 7) (dV 6)) (kO 5 (dV 7))) bT)
theorem Bz{bd:List Str}{W:Nat}(hg:Brd bd W){a c x:Cell}{w:D}{r:Option Sl}{s:Bk Cell}(h:Bok bd.length W s):
 Ef (sb (brd bd) (cD a) w s.ks s.ps r (some (.ow (.lst (s.fu.map cD)))) (fz (cD c)) (fz (cD x)))=M.ret (.nx (sb (brd bd) (cD a) w (dF c s x).ks (dF c s x).ps r (some (.ow (.lst ((dF c s x).fu.map cD)))) (fz (cD c)) none)):=by
 have hle:=h.le
 have hm:bd.length*W≤64:=Nat.mul_le_mul hg.r8 hg.w8
 have ht:Cm (c0 (d2 (kK true) (dV 7) (dV 3))) (sb (brd bd) (cD a) w s.ks s.ps r (some (.ow (.lst (s.fu.map cD)))) (fz (cD c)) (fz (cD x)))=M.ret (!decide (x∈s.ks)):=
  Co (gL ((aL (x:=cD x) (y:=qL s.ks s.ps) rfl rfl).trans (pJ (neg:=true) (by rw[List.length_map];exact h.len))))
 by_cases hx:x∈s.ks
 ·rw[decide_eq_true hx] at ht
  have e:dF c s x=s:=if_pos hx
  rw[e]
  exact(bt (cJ ht rfl)).trans rfl
 ·rw[decide_eq_false hx] at ht
  have e:dF c s x=⟨s.ks++[x],s.ps++[some c],s.fu++[x]⟩:=if_neg hx
  rw[e]
  refine(bt (ρ':=sb (brd bd) (cD a) w (s.ks++[x]) (s.ps++[some c]) r (some (.ow (.lst ((s.fu++[x]).map cD)))) (fz (cD c)) (fz (cD x))) (eR ht (ah (ρ':=sb (brd bd) (cD a) w (s.ks++[x]) (s.ps++[some c]) r (some (.ow (.lst (s.fu.map cD)))) (fz (cD c)) (fz (cD x))) ?_ ?_))).trans rfl
  ·show (match jK (xx s.ks s.ps) (cD x) (cD c) with | some c'=>M.ret (Out.nx (List.set (sb (brd bd) (cD a) w s.ks s.ps r (some (.ow (.lst (s.fu.map cD)))) (fz (cD c)) (fz (cD x))) 3 (some (.ow c')))) | none=>M.stuck)=_
   rw[rZ hx (by rw[List.length_map,←h.len,cW];omega)]
   rw[show s.ps.map yT++[cD c]=(s.ps++[some c]).map yT by simp[yT]]
   rfl
  ·show (if (s.fu.map cD).length<lim then M.ret (Out.nx (sb (brd bd) (cD a) w (s.ks++[x]) (s.ps++[some c]) r (some (.ow (.lst (s.fu.map cD++[cD x])))) (fz (cD c)) (fz (cD x)))) else M.stuck)=_
   have:=h.fu
   rw[if_pos (by rw[List.length_map,cW];omega)]
   rw[show s.fu.map cD++[cD x]=(s.fu++[x]).map cD by simp]
def Ee:DS:=cb [6,7] (da (putN 7) (ck (ak 3 b8 (aC (dV 0) (aC (dV 6) (aC (dV 2) aN))))) Ef)
theorem vD{bd:List Str}{W w:Nat}(hg:Brd bd W)(hw:Ways w){a c:Cell}(hc:On bd.length W c){r:Option Sl}{s:Bk Cell}(h:Bok bd.length W s):
 Bok bd.length W (j2 (aS bd W w) s c)∧Ee (sb (brd bd) (cD a) (.int (w:Int)) s.ks s.ps r (some (.ow (.lst (s.fu.map cD)))) (fz (cD c)) none)=
  M.ret (.nx (sb (brd bd) (cD a) (.int (w:Int)) (j2 (aS bd W w) s c).ks (j2 (aS bd W w) s c).ps r (some (.ow (.lst ((j2 (aS bd W w) s c).fu.map cD)))) none none)):=by
 obtain⟨h1,e⟩:=jv (put:=putN 7) (body:=Ef) cD (fun s:Bk Cell=>sb (brd bd) (cD a) (.int (w:Int)) s.ks s.ps r (some (.ow (.lst (s.fu.map cD)))) (fz (cD c)) none) (dF c) (Bok bd.length W) (aS bd W w c) s h fun s hs x hx=>
  ⟨hs.step ((bF hw).mp hx).1,_,rfl,Bz hg hs⟩
 refine⟨h1,(bt (eA ?_ e)).trans rfl⟩
 show (ak 3 b8 (aC (dV 0) (aC (dV 6) (aC (dV 2) aN))) (sb (brd bd) (cD a) (.int (w:Int)) s.ks s.ps r (some (.ow (.lst (s.fu.map cD)))) (fz (cD c)) none)>>=lstM)=_
 have e2:ak 3 b8 (aC (dV 0) (aC (dV 6) (aC (dV 2) aN))) (sb (brd bd) (cD a) (.int (w:Int)) s.ks s.ps r (some (.ow (.lst (s.fu.map cD)))) (fz (cD c)) none)=M.ret (.lst ((aS bd W w c).map cD)):=lP hg hw hc
 rw[e2]
 rfl
def Gq:DS:=cb [5,6,7] (az (uk 5) (az (da (putN 6) (ck (dV 4)) Ee) (zF 5 (bO 4 (dV 5)))))
theorem By{bd:List Str}{W w:Nat}(hg:Brd bd W)(hw:Ways w){a:Cell}{ring:List Cell}(hr:∀c∈ring,On bd.length W c){s:Bk Cell}(h:Bok bd.length W s)(hf:s.fu=[]):
 Bok bd.length W (cg (aS bd W w) s ring)∧Gq (sb (brd bd) (cD a) (.int (w:Int)) s.ks s.ps (fz (.lst (ring.map cD))) none none none)=
  M.ret (.nx (sb (brd bd) (cD a) (.int (w:Int)) (cg (aS bd W w) s ring).ks (cg (aS bd W w) s ring).ps (fz (.lst ((cg (aS bd W w) s ring).fu.map cD))) none none none)):=by
 obtain⟨h1,e⟩:=jv (put:=putN 6) (body:=Ee) cD (fun s:Bk Cell=>sb (brd bd) (cD a) (.int (w:Int)) s.ks s.ps (fz (.lst (ring.map cD))) (some (.ow (.lst (s.fu.map cD)))) none none) (j2 (aS bd W w)) (Bok bd.length W) ring s h fun s hs c hc=>
  ⟨(vD (a:=a) (r:=fz (.lst (ring.map cD))) hg hw (hr c hc) hs).1,_,rfl,(vD hg hw (hr c hc) hs).2⟩
 refine⟨h1,(bt (ρ':=sb (brd bd) (cD a) (.int (w:Int)) (cg (aS bd W w) s ring).ks (cg (aS bd W w) s ring).ps (fz (.lst ((cg (aS bd W w) s ring).fu.map cD))) (fz (.lst ((cg (aS bd W w) s ring).fu.map cD))) none none) ?_).trans rfl⟩
 refine ah (ρ':=sb (brd bd) (cD a) (.int (w:Int)) s.ks s.ps (fz (.lst (ring.map cD))) (some (.ow (.lst []))) none none) rfl (ah (ρ':=sb (brd bd) (cD a) (.int (w:Int)) (cg (aS bd W w) s ring).ks (cg (aS bd W w) s ring).ps (fz (.lst (ring.map cD))) (some (.ow (.lst ((cg (aS bd W w) s ring).fu.map cD)))) none none) ?_ rfl)
 rw[hf] at e
 exact eA rfl e
theorem sk{bd:List Str}{W w:Nat}(hg:Brd bd W)(hw:Ways w){a:Cell}(ha:On bd.length W a):∀(fuel k:Nat) (ks:List Cell) (ps:List (Option Cell)) (ring:List Cell),bd.length*W+2≤fuel+k→Rng (aS bd W w) a k ks ps ring→(∀x∈ks,On bd.length W x)→
 ∃k' ks' G3,Rng (aS bd W w) a k' ks' G3 []∧(∀x∈ks',On bd.length W x)∧dX (b7 (dV 4)) Gq fuel (sb (brd bd) (cD a) (.int (w:Int)) ks ps (fz (.lst (ring.map cD))) none none none)=M.ret (.nx (sb (brd bd) (cD a) (.int (w:Int)) ks' G3 (fz (.lst [])) none none none))
 |0,k,ks,ps,ring,hf,hR,lC=>by
  have h1:ks.length≤bd.length*W:=by
   rw[←cy bd.length W]
   exact i2 hR.nd fun x hx=>aM.mpr (lC x hx)
  have:=hR.sz.1
  omega
 |fuel+1,k,ks,ps,[],hf,hR,lC=>⟨k,ks,ps,hR,lC,z0 rfl⟩
 |fuel+1,k,ks,ps,c::ring,hf,hR,lC=>by
  have dB:c::ring≠[]:=by simp
  have hN:=hR.next dB
  have H0:∀x∈c::ring,On bd.length W x:=fun x hx=>lC x ((hR.mem x).mpr ((hR.rg x).mp hx).1)
  obtain⟨hb,e⟩:=By (a:=a) hg hw H0 (s:=⟨ks,ps,[]⟩) ⟨hR.len,hR.nd,lC,Nat.zero_le _⟩ rfl
  obtain⟨k',ks',G3,q1,q2,q3⟩:=sk hg hw ha fuel (k+1) _ _ _ (by omega) hN hb.on
  exact⟨k',ks',G3,q1,q2,z3 rfl e q3⟩
theorem eD{bd:List Str}{W w:Nat}(hg:Brd bd W)(hw:Ways w){a:Cell}(ha:On bd.length W a):
 ∃k ks ps,Rng (aS bd W w) a k ks ps []∧(∀x∈ks,On bd.length W x)∧aJ [brd bd,cD a, .int (w:Int)]=M.ret (qL ks ps):=by
 have hm:bd.length*W≤64:=Nat.mul_le_mul hg.r8 hg.w8
 obtain⟨k,ks,ps,h1,h2,h3⟩:=sk hg hw ha lim 0 [a] [none] [a] (by rw[cW];omega) (Rng.zero _ _) (fun x hx=>(show x=a by simpa using hx)▸ha)
 refine⟨k,ks,ps,h1,h2,a9 (ah (ρ':=[fz (brd bd),fz (cD a),fz (.int (w:Int)),some (.ow (xx [a] [none])),none,none,none,none]) rfl (ah (ρ':=sb (brd bd) (cD a) (.int (w:Int)) [a] [none] (fz (.lst [cD a])) none none none) rfl (ah (ρ':=sb (brd bd) (cD a) (.int (w:Int)) ks ps (fz (.lst [])) none none none) (d3 h3) rfl)))⟩
def ny{α:Type}[DecidableEq α](n:Nat)(enc:α→D):Prop:=∀k x y,jq (n+k) (enc x) (enc y)=some (decide (x=y))
theorem pA(n:Nat)(i j:Int):jq n (.int i) (.int j)=some (i==j):=by cases n<;>rfl
theorem uQ{α:Type}[DecidableEq α]{enc:α→D}{f:D→D→Option Bool}(h:∀x y,f (enc x) (enc y)=some (decide (x=y))):∀(xs ys:List α),lu f (xs.map enc) (ys.map enc)=some (decide (xs=ys))
 |[],[]=>rfl
 |[],_::_=>by simp[lu]
 |_::_,[]=>by simp[lu]
 |x::xs,y::ys=>by
  rw[List.map_cons,List.map_cons]
  show (match f (enc x) (enc y),lu f (xs.map enc) (ys.map enc) with | some b,some r=>some (b&&r) | _,_=>none)=_
  rw[h,uQ h xs ys]
  show some (decide (x=y)&&decide (xs=ys))=_
  congr 1
  by_cases h1:x=y<;>by_cases h2:xs=ys<;>simp[h1,h2]
theorem CB:ny 1 cD:=fun k a b=>by
 rw[Nat.add_comm]
 show (match jq k (.int (a.1:Int)) (.int (b.1:Int)),lu (jq k) [.int (a.2:Int)] [.int (b.2:Int)] with | some b,some r=>some (b&&r) | _,_=>none)=_
 rw[pA]
 show (match some ((a.1:Int)==(b.1:Int)),(match jq k (.int (a.2:Int)) (.int (b.2:Int)),lu (jq k) [] [] with | some b,some r=>some (b&&r) | _,_=>none) with | some b,some r=>some (b&&r) | _,_=>none)=_
 rw[pA]
 show some (((a.1:Int)==(b.1:Int))&&(((a.2:Int)==(b.2:Int))&&true))=_
 rw[i1,i1,Bool.and_true]
 congr 1
 obtain⟨a1,a2⟩:=a
 obtain⟨b1,b2⟩:=b
 by_cases h1:a1=b1<;>by_cases h2:a2=b2<;>simp[h1,h2]
theorem uP{α:Type}[DecidableEq α]{enc:α→D}{n:Nat}(h:ny n enc):ny (n+1) (fun l:List α=> .lst (l.map enc)):=fun k x y=>by
 rw[show n+1+k=(n+k)+1 by omega]
 exact uQ (h k) x y
theorem Ai:ny 0 D.int:=fun k x y=>by
 rw[pA]
 congr 1
theorem Hi{α:Type}[DecidableEq α]{enc:α→D}{n:Nat}(h:ny n enc)(hn:n≤6)(x y:α):nS (enc x) (enc y)=M.ret (.bl (decide (x=y))):=by
 have:=h (6 - n) x y
 rw[show n+(6 - n)=6 by omega] at this
 unfold nS
 rw[this]
theorem xS{α:Type}[DecidableEq α]{enc:α→D}{n:Nat}(h:ny n enc)(hn:n≤6)(x y:α):g7 (enc x) (enc y)=M.ret (.bl (!decide (x=y))):=by
 have:=h (6 - n) x y
 rw[show n+(6 - n)=6 by omega] at this
 unfold g7
 rw[this]
abbrev cL(l:List Cell):D:= .lst (l.map cD)
theorem yD(a b:List Cell):g7 (cL a) (cL b)=M.ret (.bl (!decide (a=b))):=xS (uP CB) (by decide) a b
def ic(c:Cell):List Int:=[(c.1:Int),(c.2:Int)]
def xJ(a b:Cell):Bool:=if a.1=b.1 then decide (a.2<b.2) else decide (a.1<b.1)
def AE(k:Cell):List Cell→List Cell
 |[]=>[k]
 |x::r=>if xJ k x then k::x::r else x::AE k r
def gG:List Cell→List Cell
 |[]=>[]
 |k::r=>AE k (gG r)
theorem tM(a b:Cell):dh (ic a) (ic b)=xJ a b:=by
 show (if (a.1:Int)=(b.1:Int) then(if (a.2:Int)=(b.2:Int) then false else decide ((a.2:Int)<(b.2:Int))) else decide ((a.1:Int)<(b.1:Int)))=_
 unfold xJ
 by_cases h:a.1=b.1
 ·rw[if_pos h,if_pos (by omega)]
  by_cases h2:a.2=b.2
  ·rw[if_pos (by omega),h2];simp
  ·rw[if_neg (by omega)]
   by_cases h3:a.2<b.2
   ·rw[decide_eq_true h3,decide_eq_true (by omega)]
   ·rw[decide_eq_false h3,decide_eq_false (by omega)]
 ·rw[if_neg h,if_neg (by omega)]
  by_cases h3:a.1<b.1
  ·rw[decide_eq_true h3,decide_eq_true (by omega)]
  ·rw[decide_eq_false h3,decide_eq_false (by omega)]
theorem yq(k:Cell):∀l:List Cell,insI (ic k) (l.map ic)=(AE k l).map ic
 |[]=>rfl
 |x::r=>by
  rw[List.map_cons]
  unfold insI AE
  rw[tM]
  cases xJ k x with
  |true=>rfl
  |false=>rw[if_neg (by decide),if_neg (by decide),List.map_cons,yq k r]
theorem jh:∀l:List Cell,sortI (l.map ic)=(gG l).map ic
 |[]=>rfl
 |k::r=>by
  rw[List.map_cons]
  unfold sortI gG
  rw[jh r,yq]
theorem pI{a b:Cell}(h:ic a=ic b):a=b:=by
 unfold ic at h
 injection h with h1 h2
 injection h2 with h2 _
 exact Prod.ext (Int.ofNat.inj h1) (Int.ofNat.inj h2)
theorem gY{x:Cell}{l:List Cell}:x∈gG l↔x∈l:=by
 have h:=d7 (x:=ic x) (l:=l.map ic)
 rw[jh] at h
 constructor
 ·intro hx
  obtain⟨y,hy,e⟩:=List.mem_map.mp (h.mp (List.mem_map.mpr ⟨x,hx,rfl⟩))
  rw[←pI e];exact hy
 ·intro hx
  obtain⟨y,hy,e⟩:=List.mem_map.mp (h.mpr (List.mem_map.mpr ⟨x,hx,rfl⟩))
  rw[←pI e];exact hy
def RiseC(l:List Cell):Prop:=l.Pairwise fun a b=>xJ a b=true
theorem qh{l:List Cell}:sT (l.map ic)↔RiseC l:=by
 unfold sT RiseC
 rw[List.pairwise_map]
 constructor<;>intro h<;>refine List.Pairwise.imp ?_ h<;>intro a b q
 ·rw[←tM];exact q
 ·rw[tM];exact q
theorem rE{l:List Cell}(h:l.Nodup):(l.map ic).Nodup:=by
 unfold List.Nodup at h⊢
 rw[List.pairwise_map]
 exact List.Pairwise.imp (fun h z=>h (pI z)) h
theorem fU{l:List Cell}(h:l.Nodup):RiseC (gG l):=by
 have:=iH (rE h)
 rw[jh] at this
 exact qh.mp this
theorem du{a b:List Cell}(ha:RiseC a)(hb:RiseC b)(h:∀x,x∈a↔x∈b):a=b:=by
 have e:=mI (qh.mpr ha) (qh.mpr hb) fun x=>by
  constructor
  ·intro hx
   obtain⟨y,hy,rfl⟩:=List.mem_map.mp hx
   exact List.mem_map.mpr ⟨y,(h y).mp hy,rfl⟩
  ·intro hx
   obtain⟨y,hy,rfl⟩:=List.mem_map.mp hx
   exact List.mem_map.mpr ⟨y,(h y).mpr hy,rfl⟩
 have inj:∀(a b:List Cell),a.map ic=b.map ic→a=b:=by
  intro a
  induction a with
  |nil=>intro b h;cases b with
   |nil=>rfl
   |cons=>simp at h
  |cons x a ih=>intro b h;cases b with
   |nil=>simp at h
   |cons y b=>
    rw[List.map_cons,List.map_cons] at h
    injection h with h1 h2
    rw[pI h1,ih b h2]
 exact inj a b e
theorem RiseC.nodup{l:List Cell}(h:RiseC l):l.Nodup:=by
 refine List.Pairwise.imp ?_ h
 intro a b q z
 subst z
 unfold xJ at q
 rw[if_pos rfl] at q
 have:=of_decide_eq_true q
 omega
theorem jx:∀ks:List Cell,eo (ks.map keyOf)=some (ks.map ic)
 |[]=>rfl
 |k::r=>by
  show (match nY (keyOf k),eo (r.map keyOf) with | some x,some xs=>some (x::xs) | _,_=>none)=_
  rw[jx r]
  rfl
theorem Ce{ks:List Cell}(h:ks.Nodup)(hl:ks.length<64):dU (ks.map ic)=true:=by
 unfold dU
 rw[List.length_map,decide_eq_true (rE h),decide_eq_true hl]
 simp
 intro a b _ z
 cases z
theorem sy{ks:List Cell}{ds:List D}(h:ks.Nodup)(hl:ks.length<64):gH [.dct (ks.map keyOf) ds]=M.ret (cL (gG ks)):=by
 show (match eo (ks.map keyOf) with | some ks=>if dU ks&&ks.all (fun k=>decide (k.length≤lim)) then M.ret (D.lst ((sortI ks).map tupI)) else M.stuck | none=>M.stuck)=_
 rw[jx]
 show (if dU (ks.map ic)&&(ks.map ic).all (fun k=>decide (k.length≤lim)) then M.ret (D.lst ((sortI (ks.map ic)).map tupI)) else M.stuck)=_
 rw[Ce h hl]
 have:(ks.map ic).all (fun k=>decide (k.length≤lim))=true:=by
  simp
  intro a b _
  show 2≤lim
  decide
 rw[this,Bool.and_true,if_pos rfl,jh,List.map_map]
 rfl
def Cn(bd:List Str)(W w:Nat)(a b:Cell):Prop:=∃j,Rb (aS bd W w) a j b
theorem Cn.refl{bd:List Str}{W w:Nat}{a:Cell}:Cn bd W w a a:=⟨0,rfl⟩
theorem tN{bd:List Str}{W w:Nat}(hw:Ways w){a b:Cell}(ha:On bd.length W a)(h:b∈aS bd W w a):a∈aS bd W w b:=by
 obtain⟨h1,h2,h3⟩:=(bF hw).mp h
 exact(bF hw).mpr ⟨ha,by rw[yL];exact h2,h3.symm⟩
theorem r6{bd:List Str}{W w:Nat}(hw:Ways w){a b:Cell}(ha:On bd.length W a):∀{j:Nat},Rb (aS bd W w) a j b→On bd.length W b
 |0,h=>by rw[show b=a from h];exact ha
 |j+1, .inl h=>r6 hw ha h
 |j+1, .inr ⟨y,_,hy⟩=>((bF hw).mp hy).1
theorem mE{bd:List Str}{W w:Nat}{a c b:Cell}(h:c∈aS bd W w a):∀{j:Nat},Rb (aS bd W w) c j b→Rb (aS bd W w) a (j+1) b
 |0,q=> .inr ⟨a,rfl,by rw[show b=c from q];exact h⟩
 |j+1, .inl q=> .inl (mE h q)
 |j+1, .inr ⟨y,q,hy⟩=> .inr ⟨y,mE h q,hy⟩
theorem qd{bd:List Str}{W w:Nat}(hw:Ways w){a b:Cell}(ha:On bd.length W a):∀{j:Nat},Rb (aS bd W w) a j b→Rb (aS bd W w) b j a
 |0,h=>show a=b from(show b=a from h).symm
 |j+1, .inl h=> .inl (qd hw ha h)
 |j+1, .inr ⟨y,q,hy⟩=>mE (tN hw (r6 hw ha q) hy) (qd hw ha q)
theorem mF{bd:List Str}{W w:Nat}{a b c:Cell}{i:Nat}(h:Rb (aS bd W w) a i b):∀{j:Nat},Rb (aS bd W w) b j c→Rb (aS bd W w) a (i+j) c
 |0,q=>by rw[show c=b from q];exact h
 |j+1, .inl q=> .inl (mF h q)
 |j+1, .inr ⟨y,q,hy⟩=> .inr ⟨y,mF h q,hy⟩
theorem jL{bd:List Str}{W w:Nat}(hw:Ways w){a b:Cell}:∀{j:Nat},Rb (aS bd W w) a j b→lt bd b=lt bd a
 |0,h=>by rw[show b=a from h]
 |j+1, .inl h=>jL hw h
 |j+1, .inr ⟨y,q,hy⟩=>((bF hw).mp hy).2.2.trans (jL hw q)
section
variable{bd:List Str}{W w:Nat}{a b c:Cell}
theorem Cn.on(hw:Ways w)(ha:On bd.length W a)(h:Cn bd W w a b):On bd.length W b:=let ⟨_,q⟩:=h;r6 hw ha q
theorem Cn.symm(hw:Ways w)(ha:On bd.length W a)(h:Cn bd W w a b):Cn bd W w b a:=let ⟨j,q⟩:=h;⟨j,qd hw ha q⟩
theorem Cn.trans(h:Cn bd W w a b)(h2:Cn bd W w b c):Cn bd W w a c:=let ⟨i,q⟩:=h;let ⟨j,r⟩:=h2;⟨i+j,mF q r⟩
theorem Cn.letter(hw:Ways w)(h:Cn bd W w a b):lt bd b=lt bd a:=let ⟨_,q⟩:=h;jL hw q
theorem Cn.step(h:Cn bd W w a b)(h2:c∈aS bd W w b):Cn bd W w a c:=let ⟨j,q⟩:=h;⟨j+1, .inr ⟨b,q,h2⟩⟩
end
structure IsPatch (bd:List Str) (W w:Nat) (a:Cell) (P:List Cell):Prop where
 rise:RiseC P
 mem:∀x,x∈P↔Cn bd W w a x
theorem IsPatch.one{bd:List Str}{W w:Nat}{a:Cell}{P Q:List Cell}(h:IsPatch bd W w a P)(h2:IsPatch bd W w a Q):P=Q:=du h.rise h2.rise fun x=>(h.mem x).trans (h2.mem x).symm
theorem iJ{bd:List Str}{W:Nat}{ks:List Cell}(hn:ks.Nodup)(lC:∀x∈ks,On bd.length W x):ks.length≤bd.length*W:=by
 rw[←cy bd.length W]
 exact i2 hn fun x hx=>aM.mpr (lC x hx)
theorem zP{bd:List Str}{W w:Nat}(hg:Brd bd W)(hs:bd.length*W<64)(hw:Ways w)(ha:On bd.length W a):∃P,IsPatch bd W w a P∧(aJ [brd bd,cD a, .int (w:Int)]>>=fun d=>gH [d])=M.ret (cL P):=by
 obtain⟨k,ks,ps,h1,h2,h3⟩:=eD hg hw ha
 refine⟨gG ks,⟨fU h1.nd,fun x=>gY.trans (h1.last x)⟩,?_⟩
 rw[h3,aq]
 exact sy h1.nd (Nat.lt_of_le_of_lt (iJ h1.nd h2) hs)
theorem p7{bd:List Str}{W w:Nat}(hg:Brd bd W)(hs:bd.length*W<64)(hw:Ways w){a:Cell}(ha:On bd.length W a):∃P,IsPatch bd W w a P∧dm [brd bd,cD a, .int (w:Int)]=M.ret (cL P):=by
 obtain⟨P,h1,h2⟩:=zP hg hs hw ha
 refine⟨P,h1,a9 (ah (bq ((ao (ds:=[brd bd]) rfl rfl).trans hg.nb)) (ah (bq ((ao (ds:=[brd bd,cD a]) rfl rfl).trans (hg.nc ha))) (ah (bq ((ao (ds:=[.int (w:Int)]) rfl rfl).trans hw.nw)) (aK ?_))))⟩
 have e:(dA gH (aC (ak 3 aJ (aC (dV 0) (aC (dV 1) (aC (dV 2) aN)))) aN)) [fz (brd bd),fz (cD a),fz (.int (w:Int))]=(aJ [brd bd,cD a, .int (w:Int)]>>=fun d=>gH [d]):=by
  show ((aJ [brd bd,cD a, .int (w:Int)]>>=fun x=>M.ret [x])>>=gH)=_
  match aJ [brd bd,cD a, .int (w:Int)] with
  |none=>rfl
  |some (.ok a)=>rfl
  |some (.ex n)=>rfl
 exact e.trans h2
theorem xh{bd:List Str}{W w:Nat}(hg:Brd bd W)(hw:Ways w){a b:Cell}(ha:On bd.length W a)(hb:On bd.length W b):cC [brd bd, .int (w:Int),cD a,cD b]=M.ret .non:=
 qi (ρ:=[fz (brd bd),fz (.int (w:Int)),fz (cD a),fz (cD b)]) (ah (bq ((ao (ds:=[brd bd]) rfl rfl).trans hg.nb)) (ah (bq ((ao (ds:=[.int (w:Int)]) rfl rfl).trans hw.nw)) (ah (bq ((ao (ds:=[brd bd,cD a]) rfl rfl).trans (hg.nc ha))) (bq ((ao (ds:=[brd bd,cD b]) rfl rfl).trans (hg.nc hb))))))
theorem qH{bd:List Str}{W w:Nat}(hg:Brd bd W)(hw:Ways w){a b:Cell}(ha:On bd.length W a)(hb:On bd.length W b):∃r:Bool,(r=true↔Cn bd W w a b)∧d5 [brd bd, .int (w:Int),cD a,cD b]=M.ret (.bl r):=by
 obtain⟨k,ks,ps,h1,h2,h3⟩:=eD hg hw ha
 refine⟨decide (b∈ks),by rw[decide_eq_true_eq];exact h1.last b,a9 (ah (bq ((ao (ds:=[brd bd, .int (w:Int),cD a,cD b]) rfl rfl).trans (xh hg hw ha hb))) (aK ?_))⟩
 exact(aL (x:=cD b) (y:=qL ks ps) rfl ((ao (ds:=[brd bd,cD a, .int (w:Int)]) rfl rfl).trans h3)).trans (pJ (neg:=false) (by rw[List.length_map];exact h1.len))
theorem E_:((aB 8 8).map fun c=>eL (ic c)).Nodup:=by decide+kernel
theorem oD{α β:Type}{f:α→β}:∀{l:List α},(l.map f).Nodup→∀a∈l,∀b∈l,f a=f b→a=b
 |x::l,h,a,ha,b,hb,e=>by
  rw[List.map_cons,List.nodup_cons] at h
  by_cases h1:a=x
  ·by_cases h2:b=x
   ·rw[h1,h2]
   ·have hb:b∈l:=(List.mem_cons.mp hb).resolve_left h2
    exact absurd (List.mem_map.mpr ⟨b,hb,by rw[←h1];exact e.symm⟩) h.1
  ·have ha:a∈l:=(List.mem_cons.mp ha).resolve_left h1
   by_cases h2:b=x
   ·exact absurd (List.mem_map.mpr ⟨a,ha,by rw[←h2];exact e⟩) h.1
   ·exact oD h.2 a ha b ((List.mem_cons.mp hb).resolve_left h2) e
theorem Ao{R W:Nat}(hR:R≤8)(hW:W≤8){l:List Cell}(hn:l.Nodup)(lC:∀x∈l,On R W x):(l.map fun c=>eL (ic c)).Nodup:=by
 have h8:∀x∈l,x∈aB 8 8:=fun x hx=>aM.mpr ⟨by have:=(lC x hx).1;omega,by have:=(lC x hx).2;omega⟩
 rw[List.Nodup,List.pairwise_map]
 refine List.Pairwise.imp_of_mem (fun {a b} ha hb h z=>h ?_) hn
 exact oD E_ a (h8 a ha) b (h8 b hb) z
theorem rk:∀l:List Cell,fH (l.map cD)=some (l.map ic)
 |[]=>rfl
 |c::l=>by
  show (match B9 (cD c),fH (l.map cD) with | some k,some ks=>some (k::ks) | _,_=>none)=_
  rw[rk l]
  rfl
theorem zM{l:List Cell}(h:RiseC l):gG l=l:=du (fU h.nodup) h fun x=>gY
theorem vE{l:List Cell}(h:l.Nodup)(hl:l.length<64):uv [cL l]=M.ret (cL (gG l)):=by
 show (match fH (l.map cD) with | some ks=>if dU ks then M.ret (D.lst ((sortI ks).map tupI)) else M.stuck | none=>M.stuck)=_
 rw[rk]
 refine(if_pos (Ce h hl)).trans ?_
 rw[jh,List.map_map]
 rfl
def EM(w:Nat):List Cell→Bool
 |a::b::r=>hX w a b&&EM w (b::r)
 |_=>true
structure IsWay (bd:List Str) (W w:Nat) (a b:Cell) (p:List Cell):Prop where
 on:∀x∈p,On bd.length W x
 hd:p.head? =some a
 lst:p.getLast? =some b
 let':∀x∈p,lt bd x=lt bd a
 LY:EM w p=true
theorem qJ{α:Type}{l:List α}{x:α}:L2.atI (l++[x]) (-1)=some x:=by
 unfold L2.atI Aa
 rw[if_neg (by decide)]
 have: -((l++[x]).length:Int)≤ -1:=by simp;omega
 rw[if_pos this]
 have e:((-1:Int)+((l++[x]).length:Int)).toNat=l.length:=by simp;omega
 show (l++[x])[((-1:Int)+((l++[x]).length:Int)).toNat]? =some x
 rw[e]
 simp
theorem FH{l:List Cell}{x:Cell}:cx (cL (l++[x])) (.int (-1))=M.ret (cD x):=by
 show (match L2.atI ((l++[x]).map cD) (-1) with | some d=>M.ret d | none=>M.stuck)=_
 rw[List.map_append,show [x].map cD=[cD x] from rfl,qJ]
theorem tJ{l:List Cell}{i:Nat}{x:Cell}(h:l[i]? =some x):cx (cL l) (.int (i:Int))=M.ret (cD x):=by
 show (match L2.atI (l.map cD) (i:Int) with | some d=>M.ret d | none=>M.stuck)=_
 rw[d8 (x:=cD x) (by rw[List.getElem?_map,h];rfl)]
structure Trail (nb:Cell→List Cell) (b:Cell) (p:List Cell) (x:Cell):Prop where
 hd:p.head? =some x
 lst:p.getLast? =some b
 ch:∀l r u v,p=l++u::v::r→u∈nb v
abbrev wr(bd w a b k t:D):a5:=[fz bd,fz w,fz a,fz b,fz k,fz t]
theorem fE{α:Type}{f:D→M (Option D)}(enc:α→D)(g:α→D):∀(xs:List α),(∀x∈xs,f (enc x)=M.ret (some (g x)))→cY f (xs.map enc)=M.ret (xs.map g)
 |[],_=>rfl
 |x::xs,h=>by
  rw[List.map_cons,eg,h x (List.mem_cons_self ..),aq,fE enc g xs fun y hy=>h y (List.mem_cons_of_mem _ hy)]
  rfl
theorem FG{ρ:a5}{i:Nat}{ds:List D}(h:ρ[i]? =some (fz (.lst ds))):ck (dV i) ρ=M.ret ds:=by
 unfold ck
 rw[ll h]
 rfl
def bQ(ks:List Cell)(c:Cell):List Cell:=if c∈ks then ks else ks++[c]
def bw(l:List Cell):List Cell:=l.foldl bQ []
def aH(ks:List Cell):List D:=ks.map fun _=> .bl true
theorem fZ{ks:List Cell}{c x:Cell}:x∈bQ ks c↔x∈ks∨x=c:=by
 unfold bQ
 split
 ·rename_i h
  exact⟨.inl,fun q=>q.elim id fun e=>by rw[e];exact h⟩
 ·simp
theorem j5:∀(l ks:List Cell),(ks.Nodup→(l.foldl bQ ks).Nodup)∧(∀x,x∈l.foldl bQ ks↔x∈ks∨x∈l)∧(l.foldl bQ ks).length≤ks.length+l.length
 |[],ks=>⟨id,fun x=>by simp,by simp⟩
 |c::l,ks=>by
  obtain⟨h1,h2,h3⟩:=j5 l (bQ ks c)
  refine⟨fun hn=>h1 ?_,fun x=>?_,?_⟩
  ·unfold bQ
   split
   ·exact hn
   ·rename_i hc
    refine List.nodup_append.mpr ⟨hn,by simp,fun y hy z hz e=>?_⟩
    have hz:z=c:=by simpa using hz
    rw[e,hz] at hy
    exact hc hy
  ·rw[List.foldl_cons,h2 x,fZ]
   simp[or_assoc]
  ·rw[List.foldl_cons,List.length_cons]
   have:(bQ ks c).length≤ks.length+1:=by unfold bQ;split<;>simp
   omega
theorem jC{l:List Cell}{x:Cell}:x∈bw l↔x∈l:=by
 unfold bw
 rw[(j5 l []).2.1 x]
 simp
theorem yC(l:List Cell):(bw l).Nodup:=(j5 l []).1 List.nodup_nil
theorem wq(l:List Cell):(bw l).length≤l.length:=by have:=(j5 l []).2.2;simpa[bw] using this
theorem oU{k:List Key}:∀{ks:List (List Key)}{l:List Cell},ks.length=l.length→jQ ks (aH l) k (.bl true)=aH l
 |[],[],_=>rfl
 |k'::ks,c::l,h=>by
  show (if k'=k then D.bl true else D.bl true)::jQ ks (aH l) k (.bl true)=_
  rw[oU (by simpa using h)]
  split<;>rfl
 |[],_::_,h=>by simp at h
 |_::_,[],h=>by simp at h
theorem zp{ks:List Cell}{c:Cell}(hl:ks.length<lim):jK (.dct (ks.map keyOf) (aH ks)) (cD c) (.bl true)=some (.dct ((bQ ks c).map keyOf) (aH (bQ ks c))):=by
 have hlen:(aH ks).length=ks.length:=by simp[aH]
 unfold bQ
 by_cases h:c∈ks
 ·rw[if_pos h]
  show (match dS (cD c) with | some kk=>if (aH ks).length<lim then some (C.dct (cI (ks.map keyOf) (aH ks) kk) (b5 (ks.map keyOf) (aH ks) kk (.bl true))) else none | none=>none)=_
  rw[gU]
  show (if (aH ks).length<lim then some (C.dct (cI (ks.map keyOf) (aH ks) (keyOf c)) (b5 (ks.map keyOf) (aH ks) (keyOf c) (.bl true))) else none)=_
  rw[if_pos (by rw[hlen];exact hl)]
  obtain⟨d,e,_⟩:=jX (ds:=aH ks) hlen.symm h
  unfold cI b5
  rw[e]
  show some (C.dct (ks.map keyOf) (jQ (ks.map keyOf) (aH ks) (keyOf c) (.bl true)))=_
  rw[oU (by simp)]
 ·rw[if_neg h,rZ h (by rw[hlen];exact hl)]
  simp[aH]
abbrev tL(l:List Cell):D:= .dct ((bw l).map keyOf) (aH (bw l))
theorem wm{l:List Cell}(hl:l.length<4000):iO [cL l]=M.ret (tL l):=by
 have e:∀(xs ks:List Cell),ks.length+xs.length<4000→forL (putN 2) (cb [2] (ie 1 (dV 2) (dC (.bl true)))) (xs.map cD) [fz (cL l),some (.ow (.dct (ks.map keyOf) (aH ks))),none]=M.ret (.nx [fz (cL l),some (.ow (.dct ((xs.foldl bQ ks).map keyOf) (aH (xs.foldl bQ ks)))),none]):=by
  intro xs
  induction xs with
  |nil=>intro ks _;rfl
  |cons x xs ih=>
   intro ks hk
   rw[List.length_cons] at hk
   have hle:(bQ ks x).length≤ks.length+1:=by unfold bQ;split<;>simp
   refine(cF (ρ1:=[fz (cL l),some (.ow (.dct (ks.map keyOf) (aH ks))),fz (cD x)]) (ρ2:=[fz (cL l),some (.ow (.dct ((bQ ks x).map keyOf) (aH (bQ ks x)))),none]) rfl ?_).trans (ih (bQ ks x) (by omega))
   refine(bt (ρ':=[fz (cL l),some (.ow (.dct ((bQ ks x).map keyOf) (aH (bQ ks x)))),fz (cD x)]) ?_).trans rfl
   show (match jK (.dct (ks.map keyOf) (aH ks)) (cD x) (.bl true) with | some c'=>M.ret (Out.nx [fz (cL l),some (.ow c'),fz (cD x)]) | none=>M.stuck)=_
   rw[zp (by rw[cW];omega)]
 refine a9 (ah (ρ':=[fz (cL l),some (.ow (.dct [] [])),none]) rfl (ah (ρ':=[fz (cL l),some (.ow (.dct ((bw l).map keyOf) (aH (bw l)))),none]) (d3 (eA (ds:=l.map cD) rfl (e l [] (by simpa using hl)))) rfl))
section
variable{bd:List Str}{W w:Nat}{a b c:Cell}{p q:List Cell}
end
theorem rA{x:Cell}:∀{l:List Cell},jB (keyOf x) (l.map keyOf)=decide (x∈l)
 |[]=>rfl
 |y::l=>by
  show (decide (keyOf y=keyOf x)||jB (keyOf x) (l.map keyOf))=_
  rw[rA]
  by_cases h:y=x
  ·subst h;simp
  ·have h2:¬keyOf y=keyOf x:=fun z=>h (fe z)
   rw[decide_eq_false h2,Bool.false_or,decide_eq_decide]
   constructor
   ·exact fun q=>List.mem_cons_of_mem _ q
   ·intro q
    rcases List.mem_cons.mp q with q | q
    ·exact absurd q.symm h
    ·exact q
theorem n_:∀{l:List Cell},iT (l.map cD)=some (l.map keyOf)
 |[]=>rfl
 |y::l=>by
  show (match dS (cD y),iT (l.map cD) with | some k,some ks=>some (k::ks) | _,_=>none)=_
  rw[n_]
  rfl
theorem uZ{neg:Bool}{x:Cell}{l:List Cell}:m7 neg (cD x) (cL l)=M.ret (.bl (if neg then !decide (x∈l) else decide (x∈l))):=by
 show (match dS (cD x),iT (l.map cD) with | some k,some ks=>M.ret (D.bl (if neg then !jB k ks else jB k ks)) | _,_=>M.stuck)=_
 rw[n_,gU]
 show M.ret (D.bl (if neg then !jB (keyOf x) (l.map keyOf) else jB (keyOf x) (l.map keyOf)))=_
 rw[rA]
theorem nJ{bd:List Str}{W:Nat}(hg:Brd bd W):eK [brd bd]=M.ret (cL (aB bd.length W)):=
 a9 (ah (bq ((ao (ds:=[brd bd]) rfl rfl).trans hg.nb)) (aK ((ao (ds:=[brd bd]) rfl rfl).trans (g9 hg))))
theorem va(a b:Nat):g7 (.int (a:Int)) (.int (b:Int))=M.ret (.bl (!(a==b))):=by
 rw[ne_int,i1]
theorem oE{δi:DA}{δt:DT}{ρ:a5}{xs:List Cell}(h:δi ρ=M.ret (xs.map cD))(h2:∀x∈xs,δt (fz (cD x)::ρ)=M.ret false):c0 (d2 g7 (aX 0 δi δt (dV 0)) (dA cO aN)) ρ=M.ret false:=by
 have cm:aX 0 δi δt (dV 0) ρ=M.ret (.lst []):=by
  refine bV h ?_ (Nat.zero_le _)
  have:=gP (f:=eJ 0 δt (dV 0) ρ) cD (fun _=>false) xs fun x hx=>by rw[s9,h2 x hx];rfl
  rw[this,show xs.filter (fun _=>false)=[] from List.filter_eq_nil_iff.mpr fun _ _=>by simp]
  rfl
 exact gL ((aL cm (y:= .lst []) rfl).trans rfl)
def BS(ks:List Cell)(f:Cell→D):C:= .dct (ks.map keyOf) (ks.map f)
def vZ(ks:List Cell)(f:Cell→D):D:= .dct (ks.map keyOf) (ks.map f)
def eE(f:Cell→D)(x:Cell)(d:D):Cell→D:=fun y=>if y=x then d else f y
theorem k0{f:Cell→D}{x:Cell}:∀{ks:List Cell},x∈ks→eF (ks.map keyOf) (ks.map f) (keyOf x)=some (f x)
 |y::ks,h=>by
  show (if keyOf y=keyOf x then some (f y) else eF (ks.map keyOf) (ks.map f) (keyOf x))=_
  by_cases e:y=x
  ·subst e;rw[if_pos rfl]
  ·rw[if_neg (fun z=>e (fe z))]
   rcases List.mem_cons.mp h with q | q
   ·exact absurd q.symm e
   ·exact k0 q
theorem Dd{ks:List Cell}{f:Cell→D}{x:Cell}(h:x∈ks):ra (vZ ks f) (cD x)=M.ret (f x):=by
 show (match ((dS (cD x)).map fun k=>eF (ks.map keyOf) (ks.map f) k) with | some (some v)=>M.ret v | _=>M.stuck)=_
 rw[gU]
 show (match some (eF (ks.map keyOf) (ks.map f) (keyOf x)) with | some (some v)=>M.ret v | _=>M.stuck)=_
 rw[k0 h]
theorem qg{f:Cell→D}{x:Cell}{d:D}:∀{ks:List Cell},jQ (ks.map keyOf) (ks.map f) (keyOf x) d=ks.map (eE f x d)
 |[]=>rfl
 |y::ks=>by
  show (if keyOf y=keyOf x then d else f y)::jQ (ks.map keyOf) (ks.map f) (keyOf x) d=_
  rw[qg,List.map_cons]
  congr 1
  unfold eE
  by_cases e:y=x
  ·subst e;rw[if_pos rfl,if_pos rfl]
  ·rw[if_neg (fun z=>e (fe z)),if_neg e]
theorem Bs{ks:List Cell}{f:Cell→D}{x:Cell}{d:D}(hl:ks.length<lim):jK (BS ks f) (cD x) d=some (BS (bQ ks x) (eE f x d)):=by
 show (match dS (cD x) with | some kk=>if (ks.map f).length<lim then some (C.dct (cI (ks.map keyOf) (ks.map f) kk) (b5 (ks.map keyOf) (ks.map f) kk d)) else none | none=>none)=_
 rw[gU]
 show (if (ks.map f).length<lim then some (C.dct (cI (ks.map keyOf) (ks.map f) (keyOf x)) (b5 (ks.map keyOf) (ks.map f) (keyOf x) d)) else none)=_
 rw[if_pos (by rw[List.length_map];exact hl)]
 unfold BS bQ cI b5
 by_cases h:x∈ks
 ·rw[k0 h,if_pos h]
  show some (C.dct (ks.map keyOf) (jQ (ks.map keyOf) (ks.map f) (keyOf x) d))=_
  rw[qg]
 ·rw[fw h,if_neg h]
  show some (C.dct (ks.map keyOf++[keyOf x]) (ks.map f++[d]))=_
  have e1:ks.map f=ks.map (eE f x d):=List.map_congr_left fun y hy=>by
   unfold eE;rw[if_neg (fun z:y=x=>h (z▸hy))]
  have e2:(ks++[x]).map (eE f x d)=ks.map (eE f x d)++[d]:=by
   rw[List.map_append]
   congr 1
   show [eE f x d x]=[d]
   unfold eE;rw[if_pos rfl]
  rw[List.map_append,e1,e2]
  rfl
theorem Bt{i:Nat}{δk δv:DE}{ρ:a5}{ks:List Cell}{f:Cell→D}{x:Cell}{d:D}(h0:ρ[i]? =some (some (.ow (BS ks f))))(hv:δv ρ=M.ret d)(hk:δk ρ=M.ret (cD x))(hl:ks.length<lim):
 ie i δk δv ρ=M.ret (.nx (ρ.set i (some (.ow (BS (bQ ks x) (eE f x d)))))):=by
 unfold ie ua
 rw[h0]
 show (δv ρ>>=fun v=>δk ρ>>=fun k=>match jK (BS ks f) k v with | some c'=>M.ret (Out.nx (ρ.set i (some (.ow c')))) | none=>M.stuck)=_
 rw[hv,aq,hk,aq,Bs hl]
def rank(W:Nat)(x:Cell):Nat:=x.1*W+x.2
theorem d_{R W:Nat}{a b:Cell}(ha:On R W a)(hb:On R W b):xJ a b=true↔rank W a<rank W b:=by
 unfold xJ rank
 have h1:=ha.2
 have h2:=hb.2
 by_cases h:a.1=b.1
 ·rw[if_pos h,decide_eq_true_eq,h];omega
 ·rw[if_neg h,decide_eq_true_eq]
  constructor
  ·intro q
   have:(a.1+1)*W≤b.1*W:=Nat.mul_le_mul_right _ q
   rw[Nat.add_mul,Nat.one_mul] at this
   omega
  ·intro q
   refine Classical.byContradiction fun z=>?_
   have:(b.1+1)*W≤a.1*W:=Nat.mul_le_mul_right _ (by omega)
   rw[Nat.add_mul,Nat.one_mul] at this
   omega
theorem mD{R W:Nat}{a b:Cell}(ha:On R W a)(hb:On R W b)(h:rank W a=rank W b):a=b:=by
 have n1:¬xJ a b=true:=fun z=>by have:=(d_ ha hb).mp z;omega
 have n2:¬xJ b a=true:=fun z=>by have:=(d_ hb ha).mp z;omega
 unfold xJ at n1 n2
 obtain⟨a1,a2⟩:=a
 obtain⟨b1,b2⟩:=b
 simp only at n1 n2
 by_cases h1:a1=b1
 ·rw[if_pos h1,decide_eq_true_eq] at n1
  rw[if_pos h1.symm,decide_eq_true_eq] at n2
  rw[Prod.mk.injEq];exact⟨h1,by omega⟩
 ·rw[if_neg h1,decide_eq_true_eq] at n1
  rw[if_neg (Ne.symm h1),decide_eq_true_eq] at n2
  omega
section
variable{bd:List Str}{W w:Nat}
structure Lab (bd:List Str) (W w:Nat) (L:Cell→Cell):Prop where
 on:∀x,On bd.length W x→On bd.length W (L x)
 cn:∀x,On bd.length W x→Cn bd W w x (L x)
 le:∀x,On bd.length W x→rank W (L x)≤rank W x
def mu(R W:Nat)(L:Cell→Cell):Nat:=((aB R W).map fun x=>rank W (L x)).sum
end
theorem AG{δ:DE}{ρ:a5}{l:List Cell}(h:δ ρ=M.ret (cL l)):ck δ ρ=M.ret (l.map cD):=by
 show (δ ρ>>=lstM)=_
 rw[h]
 rfl
theorem bH(R W:Nat):RiseC (aB R W):=by
 unfold RiseC aB bN
 rw[List.pairwise_flatMap]
 constructor
 ·intro r _
  rw[List.pairwise_map]
  exact List.pairwise_lt_range.imp fun h=>by show (if _ then _ else _)=true;rw[if_pos rfl,decide_eq_true_eq];exact h
 ·refine List.pairwise_lt_range.imp fun {a b} h x hx y hy=>?_
  obtain⟨i,_,rfl⟩:=List.mem_map.mp hx
  obtain⟨j,_,rfl⟩:=List.mem_map.mp hy
  show (if a=b then _ else decide (a<b))=true
  rw[if_neg (by omega),decide_eq_true_eq]
  exact h
section
variable{bd:List Str}{W w:Nat}
theorem ro{α β:Type}{n:Nat}(f:α→List β)(h:∀a,(f a).length≤n):∀l:List α,(l.flatMap f).length≤n*l.length
 |[]=>Nat.zero_le _
 |a::l=>by
  rw[List.flatMap_cons,List.length_append,List.length_cons,Nat.mul_add,Nat.mul_one]
  have:=h a
  have:=ro f h l
  omega
def Least(bd:List Str)(W w:Nat)(x m:Cell):Prop:=Cn bd W w x m∧∀z,Cn bd W w x z→rank W m≤rank W z
end
theorem D7{ks:List Cell}{f:Cell→D}{x:Cell}{d:D}:cI (ks.map keyOf) (ks.map f) (keyOf x)=(bQ ks x).map keyOf∧b5 (ks.map keyOf) (ks.map f) (keyOf x) d=(bQ ks x).map (eE f x d):=by
 unfold bQ cI b5
 by_cases h:x∈ks
 ·rw[k0 h,if_pos h]
  exact⟨rfl,qg⟩
 ·rw[fw h,if_neg h]
  have e1:ks.map f=ks.map (eE f x d):=List.map_congr_left fun y hy=>by
   unfold eE;rw[if_neg (fun z:y=x=>h (z▸hy))]
  have e2:(ks++[x]).map (eE f x d)=ks.map (eE f x d)++[d]:=by
   rw[List.map_append]
   congr 1
   show [eE f x d x]=[d]
   unfold eE;rw[if_pos rfl]
  exact⟨by rw[List.map_append];rfl,by rw[e2,←e1];rfl⟩
theorem lU:∀(l ks:List Cell),bR (ks.map keyOf) (aH ks) (l.map keyOf) (aH l)=((l.foldl bQ ks).map keyOf,aH (l.foldl bQ ks))
 |[],ks=>rfl
 |x::l,ks=>by
  show bR (cI (ks.map keyOf) (aH ks) (keyOf x)) (b5 (ks.map keyOf) (aH ks) (keyOf x) (.bl true)) (l.map keyOf) (aH l)=_
  have h:=D7 (ks:=ks) (f:=fun _=>D.bl true) (x:=x) (d:= .bl true)
  have e:eE (fun _=>D.bl true) x (.bl true)=fun _=>D.bl true:=by
   funext y;unfold eE;split<;>rfl
  rw[e] at h
  rw[show aH ks=ks.map (fun _=>D.bl true) from rfl,h.1,h.2]
  exact lU l (bQ ks x)
theorem xX{l ks:List Cell}(h:ks.Nodup):(l.foldl bQ ks).Nodup:=(j5 l ks).1 h
section
open Classical
variable{bd:List Str}{W w:Nat}
noncomputable def ax(bd:List Str)(W w:Nat)(m:Cell):List Cell:=(aB bd.length W).filter fun x=>decide (Cn bd W w m x)
noncomputable def aG(bd:List Str)(W w:Nat)(l:List Cell):List Cell:=l.filter fun x=>decide (Least bd W w x x)
theorem bo(hw:Ways w){m:Cell}(hm:On bd.length W m):IsPatch bd W w m (ax bd W w m):=by
 refine⟨(bH _ _).filter _,fun x=>?_⟩
 unfold ax
 rw[List.mem_filter,aM,decide_eq_true_eq]
 exact⟨fun h=>h.2,fun h=>⟨h.on hw hm,h⟩⟩
theorem Least.on(hw:Ways w){x m:Cell}(hx:On bd.length W x)(h:Least bd W w x m):On bd.length W m:=h.1.on hw hx
theorem Least.move(hw:Ways w){x y m:Cell}(hx:On bd.length W x)(h:Least bd W w x m)(hy:Cn bd W w x y):Least bd W w y m:=
 ⟨(hy.symm hw hx).trans h.1,fun z hz=>h.2 z (hy.trans hz)⟩
theorem Least.one(hw:Ways w){x m n:Cell}(hx:On bd.length W x)(h:Least bd W w x m)(h2:Least bd W w x n):m=n:=
 mD (h.on hw hx) (h2.on hw hx) (Nat.le_antisymm (h.2 n h2.1) (h2.2 m h.1))
theorem Least.self(hw:Ways w){x m:Cell}(hx:On bd.length W x)(h:Least bd W w x m):Least bd W w m m:=h.move hw hx h.1
variable(L:Cell→Cell)
theorem jz(hw:Ways w):∃L:Cell→Cell,∀x,On bd.length W x→Least bd W w x (L x):=by
 have h:∀x,∃m,On bd.length W x→Least bd W w x m:=fun x=>by
  by_cases hx:On bd.length W x
  ·have hP:=bo hw hx
   cases hp:ax bd W w x with
   |nil=>have:=(hP.mem x).mpr Cn.refl;rw[hp] at this;cases this
   |cons m r=>
    rw[hp] at hP
    have hm:=(hP.mem m).mp (List.mem_cons_self ..)
    refine⟨m,fun _=>⟨hm,fun z hz=>?_⟩⟩
    rcases List.mem_cons.mp ((hP.mem z).mpr hz) with rfl | LH
    ·exact Nat.le_refl _
    ·exact Nat.le_of_lt ((d_ (hm.on hw hx) (hz.on hw hx)).mp ((List.pairwise_cons.mp hP.rise).1 z LH))
  ·exact⟨x,fun z=>absurd z hx⟩
 exact⟨fun x=>Classical.choose (h x),fun x=>Classical.choose_spec (h x)⟩
noncomputable def i_(bd:List Str)(W w:Nat):D:= .lst ((aG bd W w (aB bd.length W)).map fun m=>cL (ax bd W w m))
end
section
open Classical
variable{bd:List Str}{W w:Nat}
def Jl:DS:=(cb [4,5] (eB (Cm (c0 (d2 (kK true) (dV 4) (dV 3)))) (az (bO 5 (dA gH (aC (ak 3 aJ (aC (dV 0) (aC (dV 4) (aC (dV 1) aN)))) aN))) (az (kO 2 (dV 5)) (wZ 3 (ak 1 iO (aC (dV 5) aN))))) bT))
noncomputable def vL(bd:List Str)(W w:Nat)(s:List Cell):List D:=(aG bd W w s).map fun m=>cL (ax bd W w m)
noncomputable def z4(bd:List Str)(W w:Nat)(s ks:List Cell)(x4 x5:Option Sl):a5:=[fz (brd bd),fz (.int (w:Int)),some (.ow (.lst (vL bd W w s))),some (.ow (.dct (ks.map keyOf) (aH ks))),x4,x5]
structure Seen (bd:List Str) (W w:Nat) (s ks:List Cell):Prop where
 nd:ks.Nodup
 on:∀y∈ks,On bd.length W y
 mem:∀y,y∈ks↔∃m∈aG bd W w s,Cn bd W w m y
theorem zY{i:Nat}{δ:DE}{ρ:a5}{ks l:List Cell}(h0:ρ[i]? =some (some (.ow (.dct (ks.map keyOf) (aH ks)))))(hd:δ ρ=M.ret (tL l))(hz:ks.length+l.length≤4096)(hh:ks=[]→((bw l).map fun c=>eL (ic c)).Nodup):
 wZ i δ ρ=M.ret (.nx (ρ.set i (some (.ow (.dct (((bw l).foldl bQ ks).map keyOf) (aH ((bw l).foldl bQ ks))))))):=by
 unfold wZ ua
 rw[h0]
 show (δ ρ>>=fun d=>match zX (ks.map keyOf) (aH ks) d with | some c'=>M.ret (Out.nx (ρ.set i (some (.ow c')))) | none=>M.stuck)=_
 rw[hd,aq]
 have:zX (ks.map keyOf) (aH ks) (tL l)=some (.dct (((bw l).foldl bQ ks).map keyOf) (aH ((bw l).foldl bQ ks))):=by
  show (match eo ((bw l).map keyOf) with | some ns=>if (aH ks).length+(aH (bw l)).length≤lim∧((ks.map keyOf).isEmpty=true→(ns.map eL).Nodup) then some (C.dct (bR (ks.map keyOf) (aH ks) ((bw l).map keyOf) (aH (bw l))).1 (bR (ks.map keyOf) (aH ks) ((bw l).map keyOf) (aH (bw l))).2) else none | none=>none)=_
  rw[jx]
  show (if (aH ks).length+(aH (bw l)).length≤lim∧((ks.map keyOf).isEmpty=true→(((bw l).map ic).map eL).Nodup) then some (C.dct (bR (ks.map keyOf) (aH ks) ((bw l).map keyOf) (aH (bw l))).1 (bR (ks.map keyOf) (aH ks) ((bw l).map keyOf) (aH (bw l))).2) else none)=_
  have c1:(aH ks).length+(aH (bw l)).length≤lim:=by
   have:=wq l
   unfold aH
   rw[List.length_map,List.length_map,cW];omega
  have c2:(ks.map keyOf).isEmpty=true→(((bw l).map ic).map eL).Nodup:=fun z=>by
   rw[List.map_map]
   exact hh (by cases ks with | nil=>rfl | cons _ _=>cases z)
  rw[if_pos ⟨c1,c2⟩,lU]
 rw[this]
theorem sx(hg:Brd bd W)(hs:bd.length*W<64)(hw:Ways w){x:Cell}(hx:On bd.length W x){ρ:a5}(h0:dV 0 ρ=M.ret (brd bd))(h1:dV 1 ρ=M.ret (.int (w:Int)))(h4:dV 4 ρ=M.ret (cD x)):
 dA gH (aC (ak 3 aJ (aC (dV 0) (aC (dV 4) (aC (dV 1) aN)))) aN) ρ=M.ret (cL (ax bd W w x)):=by
 obtain⟨k,ks,ps,q1,q2,q3⟩:=eD hg hw hx
 have e1:ak 3 aJ (aC (dV 0) (aC (dV 4) (aC (dV 1) aN))) ρ=M.ret (qL ks ps):=(ao (ds:=[brd bd,cD x, .int (w:Int)]) (bg h0 (bg h4 (bg h1 rfl))) rfl).trans q3
 refine(cK (xs:=[qL ks ps]) (bg e1 rfl)).trans ((sy q1.nd (Nat.lt_of_le_of_lt (iJ q1.nd q2) hs)).trans ?_)
 have:gG ks=ax bd W w x:=IsPatch.one ⟨fU q1.nd,fun x=>gY.trans (q1.last x)⟩ (bo hw hx)
 rw[this]
theorem eu(s:List Cell)(x:Cell):aG bd W w (s++[x])=if Least bd W w x x then aG bd W w s++[x] else aG bd W w s:=by
 unfold aG
 rw[List.filter_append]
 by_cases h:Least bd W w x x
 ·rw[if_pos h,List.filter_cons_of_pos (by rw[decide_eq_true_eq];exact h),List.filter_nil]
 ·rw[if_neg h,List.filter_cons_of_neg (by rw[decide_eq_true_eq];exact h),List.filter_nil,List.append_nil]
theorem Ac(hg:Brd bd W)(hs:bd.length*W<64)(hw:Ways w){L:Cell→Cell}(hL:∀x,On bd.length W x→Least bd W w x (L x)){s r ks:List Cell}{x:Cell}(e:s++x::r=aB bd.length W)(h:Seen bd W w s ks):
 ∃ks',Seen bd W w (s++[x]) ks'∧Jl (z4 bd W w s ks (fz (cD x)) none)=M.ret (.nx (z4 bd W w (s++[x]) ks' none none)):=by
 have hx:On bd.length W x:=aM.mp (by rw[←e];simp)
 have yo:=bH bd.length W
 rw[←e] at yo
 have EA:∀y∈s,On bd.length W y:=fun y hy=>aM.mp (by rw[←e];simp[hy])
 have H0:∀y∈r,On bd.length W y:=fun y hy=>aM.mp (by rw[←e];simp[hy])
 have Aq:∀y∈s,rank W y<rank W x:=fun y hy=>(d_ (EA y hy) hx).mp ((List.pairwise_append.mp yo).2.2 y hy x (List.mem_cons_self ..))
 have CL:∀y∈r,rank W x<rank W y:=fun y hy=>(d_ hx (H0 y hy)).mp ((List.pairwise_cons.mp (List.pairwise_append.mp yo).2.1).1 y hy)
 have K7:ks.length≤64:=by have:=iJ (bd:=bd) (W:=W) h.nd h.on;omega
 have xp:s.length<64:=by
  have:=congrArg List.length e
  rw[cy,List.length_append,List.length_cons] at this
  omega
 have ht:Cm (c0 (d2 (kK true) (dV 4) (dV 3))) (z4 bd W w s ks (fz (cD x)) none)=M.ret (!decide (x∈ks)):=
  Co (gL ((aL (x:=cD x) (y:= .dct (ks.map keyOf) (aH ks)) rfl rfl).trans (pJ (neg:=true) (by simp[aH]))))
 by_cases hl:Least bd W w x x
 ·have Ig:x∉ks:=fun z=>by
   obtain⟨m,hm,hc⟩:=(h.mem x).mp z
   unfold aG at hm
   rw[List.mem_filter,decide_eq_true_eq] at hm
   have h1:=Aq m hm.1
   have h2:=hl.2 m (hc.symm hw (EA m hm.1))
   omega
  rw[decide_eq_false Ig] at ht
  have hP:=bo hw hx (bd:=bd) (W:=W)
  have CK:∀y∈ax bd W w x,On bd.length W y:=fun y hy=>((hP.mem y).mp hy).on hw hx
  have Ey:(ax bd W w x).length≤64:=by have:=iJ (bd:=bd) (W:=W) hP.rise.nodup CK;omega
  have GR:(vL bd W w s).length<lim:=by
   unfold vL
   rw[List.length_map,cW]
   have:=List.length_filter_le (fun x=>decide (Least bd W w x x)) s
   unfold aG
   omega
  refine⟨(bw (ax bd W w x)).foldl bQ ks,⟨xX h.nd,fun y hy=>?_,fun y=>?_⟩,?_⟩
  ·rcases((j5 (bw (ax bd W w x)) ks).2.1 y).mp hy with q | q
   ·exact h.on y q
   ·exact CK y (jC.mp q)
  ·rw[(j5 (bw (ax bd W w x)) ks).2.1 y,jC,h.mem y,eu,if_pos hl,hP.mem y]
   constructor
   ·rintro(⟨m,hm,hc⟩ | hc)
    ·exact⟨m,List.mem_append.mpr (.inl hm),hc⟩
    ·exact⟨x,by simp,hc⟩
   ·rintro⟨m,hm,hc⟩
    rcases List.mem_append.mp hm with hm | hm
    ·exact .inl ⟨m,hm,hc⟩
    ·rw[List.mem_singleton.mp hm] at hc;exact .inr hc
  ·have ef:vL bd W w (s++[x])=vL bd W w s++[cL (ax bd W w x)]:=by
    unfold vL
    rw[eu,if_pos hl,List.map_append]
    rfl
   refine(bt (ρ':=[fz (brd bd),fz (.int (w:Int)),some (.ow (.lst (vL bd W w s++[cL (ax bd W w x)]))),some (.ow (.dct (((bw (ax bd W w x)).foldl bQ ks).map keyOf) (aH ((bw (ax bd W w x)).foldl bQ ks)))),fz (cD x),fz (cL (ax bd W w x))]) (eR ht (ah (ρ':=z4 bd W w s ks (fz (cD x)) (fz (cL (ax bd W w x)))) ((aT (sx hg hs hw hx rfl rfl rfl)).trans rfl) (ah (ρ':=[fz (brd bd),fz (.int (w:Int)),some (.ow (.lst (vL bd W w s++[cL (ax bd W w x)]))),some (.ow (.dct (ks.map keyOf) (aH ks))),fz (cD x),fz (cL (ax bd W w x))]) ?_ ?_)))).trans ?_
   ·show (if (vL bd W w s).length<lim then M.ret (Out.nx [fz (brd bd),fz (.int (w:Int)),some (.ow (.lst (vL bd W w s++[cL (ax bd W w x)]))),some (.ow (.dct (ks.map keyOf) (aH ks))),fz (cD x),fz (cL (ax bd W w x))]) else M.stuck)=_
    rw[if_pos GR]
   ·exact(zY (ks:=ks) (l:=ax bd W w x) rfl ((ao (ds:=[cL (ax bd W w x)]) rfl rfl).trans (wm (by omega))) (by omega) (fun _=>Ao hg.r8 hg.w8 (yC _) fun y hy=>CK y (jC.mp hy))).trans rfl
   ·unfold z4
    rw[ef]
    rfl
 ·have hm:=hL x hx
  have dB:L x≠x:=fun z=>hl (by rw[z] at hm;exact hm)
  have fX:rank W (L x)<rank W x:=by
   have h1:=hm.2 x Cn.refl
   have h2:rank W (L x)≠rank W x:=fun z=>dB (mD (hm.on hw hx) hx z)
   omega
  have HM:L x∈s:=by
   have:L x∈s++x::r:=by rw[e];exact aM.mpr (hm.on hw hx)
   rcases List.mem_append.mp this with q | q
   ·exact q
   ·rcases List.mem_cons.mp q with q | q
    ·exact absurd q dB
    ·have:=CL _ q;omega
  have Ig:x∈ks:=(h.mem x).mpr ⟨L x,by unfold aG;rw[List.mem_filter,decide_eq_true_eq];exact⟨HM,hm.self hw hx⟩,hm.1.symm hw hx⟩
  rw[decide_eq_true Ig] at ht
  refine⟨ks,⟨h.nd,h.on,fun y=>by rw[eu,if_neg hl];exact h.mem y⟩,?_⟩
  have ef:vL bd W w (s++[x])=vL bd W w s:=by
   unfold vL
   rw[eu,if_neg hl]
  refine(bt (cJ ht rfl)).trans ?_
  unfold z4
  rw[ef]
  rfl
theorem uJ(hg:Brd bd W)(hs:bd.length*W<64)(hw:Ways w){L:Cell→Cell}(hL:∀x,On bd.length W x→Least bd W w x (L x)):∀(r s ks:List Cell),s++r=aB bd.length W→Seen bd W w s ks→
 ∃ks',forL (putN 4) Jl (r.map cD) (z4 bd W w s ks none none)=M.ret (.nx (z4 bd W w (aB bd.length W) ks' none none))
 |[],s,ks,e,h=>by
  rw[List.append_nil] at e
  exact⟨ks,by rw[e];rfl⟩
 |x::r,s,ks,e,h=>by
  obtain⟨Iv,h1,e1⟩:=Ac hg hs hw hL e h
  obtain⟨Iw,e2⟩:=uJ hg hs hw hL r (s++[x]) Iv (by rw[List.append_assoc];exact e) h1
  exact⟨Iw,(cF rfl e1).trans e2⟩
theorem dQ(hg:Brd bd W)(hs:bd.length*W<64)(hw:Ways w):bA [brd bd, .int (w:Int)]=M.ret (i_ bd W w):=by
 obtain⟨L,hL⟩:=jz (bd:=bd) (W:=W) hw
 obtain⟨ks,e⟩:=uJ hg hs hw hL (aB bd.length W) [] [] rfl ⟨List.nodup_nil,(fun y hy=>(by cases hy)),(fun y=>⟨fun z=>(by cases z),fun⟨m,hm,_⟩=>(by cases hm)⟩)⟩
 refine a9 (ah (ρ':=[fz (brd bd),fz (.int (w:Int)),some (.ow (.lst [])),none,none,none]) rfl (ah (ρ':=z4 bd W w [] [] none none) rfl (ah (ρ':=z4 bd W w (aB bd.length W) ks none none) (d3 (eA (ds:=(aB bd.length W).map cD) (AG ((ao (ds:=[brd bd]) rfl rfl).trans (g9 hg))) e)) rfl)))
end
structure NumOk (R W:Nat) (Ps:List (List Cell)) (ks:List Cell) (f:Cell→Nat):Prop where
 nd:ks.Nodup
 on:∀y∈ks,On R W y
 num:∀y∈ks,∃P,Ps[f y]? =some P∧y∈P
def J6:DS:=cb [4] (ie 1 (dV 4) (dV 2))
def Cc(Ps:List (List Cell))(ks:List Cell)(f:Cell→Nat)(x2 x3 x4:Option Sl):a5:=[fz (.lst (Ps.map cL)),some (.ow (BS ks fun y=> .int (f y:Int))),x2,x3,x4]
theorem vK{ks:List Cell}{x:Cell}:x∈bQ ks x:=fZ.mpr (.inr rfl)
theorem Cd{R W:Nat}(hm:R*W≤64){Ps:List (List Cell)}{i:Nat}{P:List Cell}(hP:Ps[i]? =some P){x3:Option Sl}(lC:∀y∈P,On R W y):∀(l ks:List Cell) (f:Cell→Nat),(∀y∈l,y∈P)→NumOk R W Ps ks f→
 ∃ks' f',NumOk R W Ps ks' f'∧(∀y∈ks,y∈ks')∧(∀y∈l,y∈ks')∧forL (putN 4) J6 (l.map cD) (Cc Ps ks f (fz (.int (i:Int))) x3 none)=M.ret (.nx (Cc Ps ks' f' (fz (.int (i:Int))) x3 none))
 |[],ks,f,_,h=>⟨ks,f,h,fun y hy=>hy,(fun y hy=>(by cases hy)),rfl⟩
 |x::l,ks,f,hl,h=>by
  have hx:=hl x (List.mem_cons_self ..)
  have K7:ks.length≤64:=by
   have h1:=i2 h.nd fun y hy=>aM.mpr (h.on y hy)
   rw[cy] at h1
   omega
  have h1:NumOk R W Ps (bQ ks x) (fun y=>if y=x then i else f y):=by
   refine⟨(j5 [x] ks).1 h.nd,fun y hy=>?_,fun y hy=>?_⟩
   ·rcases fZ.mp hy with q | q
    ·exact h.on y q
    ·rw[q];exact lC x hx
   ·by_cases e:y=x
    ·refine⟨P,?_,by rw[e];exact hx⟩
     show Ps[if y=x then i else f y]? =_
     rw[if_pos e];exact hP
    ·rcases fZ.mp hy with q | q
     ·obtain⟨Q,q1,q2⟩:=h.num y q
      refine⟨Q,?_,q2⟩
      show Ps[if y=x then i else f y]? =_
      rw[if_neg e];exact q1
     ·exact absurd q e
  obtain⟨ks',f',a1,a2,a3,a4⟩:=Cd hm hP lC l (bQ ks x) _ (fun y hy=>hl y (List.mem_cons_of_mem _ hy)) h1
  refine⟨ks',f',a1,fun y hy=>a2 y (fZ.mpr (.inl hy)),fun y hy=>?_,?_⟩
  ·rcases List.mem_cons.mp hy with rfl | hy
   ·exact a2 _ vK
   ·exact a3 y hy
  ·refine(cF (ρ1:=Cc Ps ks f (fz (.int (i:Int))) x3 (fz (cD x))) rfl ?_).trans a4
   refine(bt ((Bt (ks:=ks) (f:=fun y=> .int (f y:Int)) (x:=x) (d:= .int (i:Int)) rfl rfl rfl (by rw[cW];omega)).trans rfl)).trans ?_
   have ef:eE (fun y=>D.int (f y:Int)) x (.int (i:Int))=fun y=>D.int ((if y=x then i else f y:Nat):Int):=by
    funext y
    unfold eE
    by_cases e:y=x
    ·rw[if_pos e,if_pos e]
    ·rw[if_neg e,if_neg e]
   show M.ret (Out.nx [fz (.lst (Ps.map cL)),some (.ow (BS (bQ ks x) (eE (fun y=>D.int (f y:Int)) x (.int (i:Int))))),fz (.int (i:Int)),x3,none])=_
   rw[ef]
   rfl
def Eu(q:Nat×List Cell):D:= .tup [.int (q.1:Int),cL q.2]
theorem yF{R W:Nat}(hm:R*W≤64){Ps:List (List Cell)}(lC:∀P∈Ps,∀y∈P,On R W y):∀(qs:List (Nat×List Cell)) (ks:List Cell) (f:Cell→Nat),(∀q∈qs,Ps[q.1]? =some q.2)→NumOk R W Ps ks f→
 ∃ks' f',NumOk R W Ps ks' f'∧(∀y∈ks,y∈ks')∧(∀q∈qs,∀y∈q.2,y∈ks')∧forL (mC [2,3]) (cb [2,3,4] (da (putN 4) (ck (dV 3)) J6)) (qs.map Eu) (Cc Ps ks f none none none)=M.ret (.nx (Cc Ps ks' f' none none none))
 |[],ks,f,_,h=>⟨ks,f,h,fun y hy=>hy,(fun q hq=>(by cases hq)),rfl⟩
 |q::qs,ks,f,hq,h=>by
  have hP:=hq q (List.mem_cons_self ..)
  obtain⟨Iv,f1,a1,a2,a3,a4⟩:=Cd hm hP (x3:=fz (cL q.2)) (lC q.2 (List.mem_of_getElem? hP)) q.2 ks f (fun y hy=>hy) h
  obtain⟨Iw,f2,b1,b2,b3,b4⟩:=yF hm lC qs Iv f1 (fun q' Fu=>hq q' (List.mem_cons_of_mem _ Fu)) a1
  refine⟨Iw,f2,b1,fun y hy=>b2 y (a2 y hy),fun q' Fu y hy=>?_,?_⟩
  ·rcases List.mem_cons.mp Fu with rfl | Fu
   ·exact b2 y (a3 y hy)
   ·exact b3 q' Fu y hy
  ·exact(cF (ρ1:=Cc Ps ks f (fz (.int (q.1:Int))) (fz (cL q.2)) none) rfl ((bt (eA (ds:=q.2.map cD) (FG rfl) a4)).trans rfl)).trans b4
theorem om(Ps:List (List Cell)):(Ps.map cL).mapIdx (fun i d=>D.tup [.int (i:Int),d])=(Ps.zipIdx.map fun q:List Cell×Nat=>(q.2,q.1)).map Eu:=by
 apply List.ext_getElem?
 intro i
 simp only[List.getElem?_mapIdx,List.getElem?_map,List.getElem?_zipIdx,Option.map_map,Nat.zero_add]
 cases Ps[i]? <;>simp[Eu]
theorem l_{R W:Nat}(hm:R*W≤64){Ps:List (List Cell)}(lC:∀P∈Ps,∀y∈P,On R W y):∃ks f,NumOk R W Ps ks f∧(∀P∈Ps,∀y∈P,y∈ks)∧dY [.lst (Ps.map cL)]=M.ret (vZ ks fun y=> .int (f y:Int)):=by
 have hq:∀q∈Ps.zipIdx.map (fun q:List Cell×Nat=>(q.2,q.1)),Ps[q.1]? =some q.2:=fun q hq=>by
  obtain⟨⟨P,i⟩,h1,rfl⟩:=List.mem_map.mp hq
  exact List.mem_zipIdx_iff_getElem?.mp h1
 obtain⟨ks,f,a1,a2,a3,a4⟩:=yF hm lC (Ps.zipIdx.map fun q:List Cell×Nat=>(q.2,q.1)) [] (fun _=>0) hq ⟨List.nodup_nil,(fun y hy=>(by cases hy)),(fun y hy=>(by cases hy))⟩
 refine⟨ks,f,a1,fun P hP y hy=>?_,?_⟩
 ·obtain⟨i,hi,rfl⟩:=List.getElem_of_mem hP
  refine a3 (i,Ps[i]) (List.mem_map.mpr ⟨(Ps[i],i),List.mem_zipIdx_iff_getElem?.mpr (by rw[List.getElem?_eq_getElem hi]),rfl⟩) y hy
 ·refine a9 (ah (ρ':=Cc Ps [] (fun _=>0) none none none) rfl (ah (ρ':=Cc Ps ks f none none none) (d3 (eA (ds:=(Ps.zipIdx.map fun q:List Cell×Nat=>(q.2,q.1)).map Eu) ?_ a4)) rfl))
  show M.ret ((Ps.map cL).mapIdx fun i d=>D.tup [.int (i:Int),d])=_
  rw[om]
theorem qZ{α β:Type}(g:α→β):∀l:List α,(l.flatMap fun r=>[g r])=l.map g
 |[]=>rfl
 |a::l=>by rw[List.flatMap_cons,qZ g l];rfl
section
open Classical
variable{bd:List Str}{W w:Nat}
noncomputable def au(bd:List Str)(W w:Nat):List (List Cell):=(aG bd W w (aB bd.length W)).map (ax bd W w)
theorem iz:i_ bd W w= .lst ((au bd W w).map cL):=by
 unfold i_ au
 rw[List.map_map]
 rfl
theorem bK{m:Cell}(h:m∈aG bd W w (aB bd.length W)):On bd.length W m:=by
 unfold aG at h
 exact aM.mp (List.mem_filter.mp h).1
theorem oM(hw:Ways w):∀P∈au bd W w,∀y∈P,On bd.length W y:=fun P hP y hy=>by
 unfold au at hP
 obtain⟨m,hm,rfl⟩:=List.mem_map.mp hP
 exact(((bo hw (bK hm)).mem y).mp hy).on hw (bK hm)
theorem mq(hg:Brd bd W)(hw:Ways w){x:Cell}(hx:On bd.length W x):∃P∈au bd W w,x∈P:=by
 obtain⟨L,hL⟩:=jz (bd:=bd) (W:=W) hw
 have hm:=hL x hx
 have pH:=hm.on hw hx
 refine⟨ax bd W w (L x),List.mem_map.mpr ⟨L x,?_,rfl⟩,((bo hw pH).mem x).mpr (hm.1.symm hw hx)⟩
 unfold aG
 rw[List.mem_filter,decide_eq_true_eq]
 exact⟨aM.mpr pH,hm.self hw hx⟩
theorem ub(hg:Brd bd W)(hw:Ways w){x:Cell}(hx:On bd.length W x):(au bd W w).filter (fun P=>decide (x∈P))=[ax bd W w x]:=by
 obtain⟨L,hL⟩:=jz (bd:=bd) (W:=W) hw
 have hm:=hL x hx
 have pH:=hm.on hw hx
 have e1:(aG bd W w (aB bd.length W)).filter ((fun P=>decide (x∈P))∘ax bd W w)=[L x]:=by
  refine du (((bH _ _).filter _).filter _) (List.pairwise_singleton ..) fun m=>?_
  rw[List.mem_filter,List.mem_singleton]
  show (m∈aG bd W w (aB bd.length W)∧decide (x∈ax bd W w m)=true)↔_
  rw[decide_eq_true_eq]
  constructor
  ·rintro⟨h1,h2⟩
   have ho:=bK h1
   have hc:=((bo hw ho).mem x).mp h2
   unfold aG at h1
   rw[List.mem_filter,decide_eq_true_eq] at h1
   exact(h1.2.move hw ho hc).one hw hx hm
  ·rintro rfl
   refine⟨?_,((bo hw pH).mem x).mpr (hm.1.symm hw hx)⟩
   unfold aG
   rw[List.mem_filter,decide_eq_true_eq]
   exact⟨aM.mpr pH,hm.self hw hx⟩
 unfold au
 rw[List.filter_map,e1]
 show [ax bd W w (L x)]=_
 congr 1
 unfold ax
 refine List.filter_congr fun y _=>?_
 rw[decide_eq_decide]
 exact⟨fun h=>hm.1.trans h,fun h=>(hm.1.symm hw hx).trans h⟩
theorem lN:(au bd W w).length≤bd.length*W:=by
 unfold au aG
 rw[List.length_map,←cy bd.length W]
 exact List.length_filter_le ..
theorem gq(hg:Brd bd W)(hs:bd.length*W<64)(hw:Ways w):br [brd bd, .int (w:Int)]=M.ret (.lst ((au bd W w).map cL)):=by
 rw[←iz]
 exact a9 (ah (bq ((ao (ds:=[brd bd]) rfl rfl).trans hg.nb)) (ah (bq ((ao (ds:=[.int (w:Int)]) rfl rfl).trans hw.nw)) (aK ((ao (ds:=[brd bd, .int (w:Int)]) rfl rfl).trans (dQ hg hs hw)))))
theorem c7(hg:Brd bd W)(hs:bd.length*W<64)(hw:Ways w):bh [brd bd, .int (w:Int)]=M.ret (.int ((au bd W w).length:Int)):=by
 refine a9 (ah (bq ((ao (ds:=[brd bd]) rfl rfl).trans hg.nb)) (ah (bq ((ao (ds:=[.int (w:Int)]) rfl rfl).trans hw.nw)) (aK ((cK (xs:=[i_ bd W w]) (bg ((ao (ds:=[brd bd, .int (w:Int)]) rfl rfl).trans (dQ hg hs hw)) rfl)).trans ?_))))
 rw[iz]
 show M.ret (D.int (((au bd W w).map cL).length:Int))=_
 rw[List.length_map]
theorem pR(hg:Brd bd W)(hs:bd.length*W<64)(hw:Ways w):∃f:Cell→Nat,(∀x,On bd.length W x→∃P,(au bd W w)[f x]? =some P∧x∈P)∧
 dj [brd bd, .int (w:Int)]=M.ret (.lst ((List.range bd.length).map fun r=> .lst ((bN W r).map fun y=> .int (f y:Int)))):=by
 obtain⟨ks,f,a1,a2,a3⟩:=l_ (R:=bd.length) (W:=W) (by omega) (oM (bd:=bd) hw)
 have CS:∀x,On bd.length W x→x∈ks:=fun x hx=>by
  obtain⟨P,hP,h⟩:=mq hg hw hx
  exact a2 P hP x h
 refine⟨f,fun x hx=>a1.num x (CS x hx),?_⟩
 have h8:=hg.r8
 have w8:=hg.w8
 have e:=f_ (put:=putN 4) (body:=cb [4] (kO 3 (aX 0 (ck (ak 2 aO (aC (dV 0) (aC (dV 4) aN)))) bW (d2 ra (dV 3) (dV 0))))) (fun (k:Nat)=>D.int (k:Int)) (fun acc=>[fz (brd bd),fz (.int (w:Int)),fz (vZ ks fun y=> .int (f y:Int)),some (.ow (.lst acc)),none]) (fun r=>[D.lst ((bN W r).map fun y=> .int (f y:Int))]) (B:=64) (List.range bd.length) []
  (by
   rw[List.nil_append]
   have:=ro (n:=1) (fun r=>[D.lst ((bN W r).map fun y=> .int (f y:Int))]) (fun r=>by simp) (List.range bd.length)
   rw[List.length_range] at this
   omega) fun r hr acc hB=>by
   refine⟨[fz (brd bd),fz (.int (w:Int)),fz (vZ ks fun y=> .int (f y:Int)),some (.ow (.lst acc)),fz (.int (r:Int))],rfl,?_⟩
   have hc:aX 0 (ck (ak 2 aO (aC (dV 0) (aC (dV 4) aN)))) bW (d2 ra (dV 3) (dV 0)) [fz (brd bd),fz (.int (w:Int)),fz (vZ ks fun y=> .int (f y:Int)),some (.ow (.lst acc)),fz (.int (r:Int))]=M.ret (.lst ((bN W r).map fun y=> .int (f y:Int))):=by
    refine bV (ds:=(bN W r).map cD) (AG ((ao (ds:=[brd bd, .int (r:Int)]) rfl rfl).trans (e9 hg r))) (fE cD (fun y=> .int (f y:Int)) _ fun y hy=>?_) (by simp[bN,cW];omega)
    have LG:On bd.length W y:=by
     obtain⟨k,hk,rfl⟩:=List.mem_map.mp hy
     exact⟨List.mem_range.mp hr,List.mem_range.mp hk⟩
    rw[ir]
    have:d2 ra (dV 3) (dV 0) [fz (cD y),fz (brd bd),fz (.int (w:Int)),fz (vZ ks fun y=> .int (f y:Int)),some (.ow (.lst acc)),fz (.int (r:Int))]=M.ret (.int (f y:Int)):=(aL (x:=vZ ks fun y=> .int (f y:Int)) (y:=cD y) rfl rfl).trans (Dd (f:=fun y=> .int (f y:Int)) (CS y LG))
    rw[this]
    rfl
   refine(bt (ρ':=[fz (brd bd),fz (.int (w:Int)),fz (vZ ks fun y=> .int (f y:Int)),some (.ow (.lst (acc++[.lst ((bN W r).map fun y=> .int (f y:Int))]))),fz (.int (r:Int))]) ?_).trans rfl
   show (aX 0 (ck (ak 2 aO (aC (dV 0) (aC (dV 4) aN)))) bW (d2 ra (dV 3) (dV 0)) [fz (brd bd),fz (.int (w:Int)),fz (vZ ks fun y=> .int (f y:Int)),some (.ow (.lst acc)),fz (.int (r:Int))]>>=fun d=>if acc.length<lim then M.ret (Out.nx [fz (brd bd),fz (.int (w:Int)),fz (vZ ks fun y=> .int (f y:Int)),some (.ow (.lst (acc++[d]))),fz (.int (r:Int))]) else M.stuck)=_
   rw[hc,aq,if_pos (by rw[List.length_append] at hB;rw[cW];simp at hB;omega)]
 rw[List.nil_append,show ((List.range bd.length).flatMap fun r=>[D.lst ((bN W r).map fun y=> .int (f y:Int))])=(List.range bd.length).map (fun r=>D.lst ((bN W r).map fun y=> .int (f y:Int))) from qZ _ _] at e
 refine a9 (ah (bq ((ao (ds:=[brd bd]) rfl rfl).trans hg.nb)) (ah (bq ((ao (ds:=[.int (w:Int)]) rfl rfl).trans hw.nw)) (ah (ρ':=[fz (brd bd),fz (.int (w:Int)),fz (vZ ks fun y=> .int (f y:Int)),none,none]) ((aT (d:=vZ ks fun y=> .int (f y:Int)) ((ao (ds:=[.lst ((au bd W w).map cL)]) (bg ((ao (ds:=[brd bd, .int (w:Int)]) rfl rfl).trans ((dQ hg hs hw).trans (by rw[iz]))) rfl) rfl).trans a3)).trans rfl) (ah (ρ':=[fz (brd bd),fz (.int (w:Int)),fz (vZ ks fun y=> .int (f y:Int)),some (.ow (.lst [])),none]) rfl (ah (d3 (eA (Ec (n:=bd.length) (AL rfl) (by omega)) e)) rfl)))))
end
end K1
namespace K1
open PySem L2 L3 HT
end K1
namespace K1
open PySem PySem.Spec L2 L3
open PyProof.Rows hiding St
section
open Classical
variable{bd:List Str}{W w:Nat}
theorem pQ:(aG bd W w (aB bd.length W)).Nodup:=by
 unfold aG
 exact(RiseC.nodup (bH _ _)).filter _
theorem wz:RiseC (aG bd W w (aB bd.length W)):=by
 unfold aG
 exact(bH _ _).filter _
theorem fi{l:List Cell}{m:Cell}:m∈aG bd W w l↔m∈l∧Least bd W w m m:=by
 unfold aG
 rw[List.mem_filter,decide_eq_true_eq]
theorem gi(hw:Ways w){m x:Cell}(hm:m∈aG bd W w (aB bd.length W))(hx:x∈ax bd W w m):Least bd W w x m:=
 (fi.mp hm).2.move hw (bK hm) (((bo hw (bK hm)).mem x).mp hx)
theorem gZ{i:Nat}{P:List Cell}(h:(au bd W w)[i]? =some P):∃m,(aG bd W w (aB bd.length W))[i]? =some m∧P=ax bd W w m:=by
 unfold au at h
 rw[List.getElem?_map] at h
 cases q:(aG bd W w (aB bd.length W))[i]? with
 |none=>rw[q] at h;cases h
 |some m=>rw[q] at h;cases h;exact⟨m,rfl,rfl⟩
theorem lX{i j:Nat}{m:Cell}(h:(aG bd W w (aB bd.length W))[i]? =some m)(h2:(aG bd W w (aB bd.length W))[j]? =some m):i=j:=
 (List.getElem?_inj (List.getElem?_eq_some_iff.mp h).1 pQ).mp (h.trans h2.symm)
theorem pO{α:Type}{l:List α}{i:Nat}{x:α}(h:l[i]? =some x):x∈l:=List.mem_of_getElem? h
theorem AA(hw:Ways w){i j:Nat}{P Q:List Cell}{x:Cell}(hi:(au bd W w)[i]? =some P)(hj:(au bd W w)[j]? =some Q)(hx:x∈P)(hy:x∈Q):i=j:=by
 obtain⟨m,e1,rfl⟩:=gZ hi
 obtain⟨n,e2,rfl⟩:=gZ hj
 have hm:=pO e1
 have hn:=pO e2
 have lC:On bd.length W x:=(((bo hw (bK hm)).mem x).mp hx).on hw (bK hm)
 have:=(gi hw hm hx).one hw lC (gi hw hn hy)
 subst this
 exact lX e1 e2
theorem iy(hw:Ways w){m:Cell}(hm:m∈aG bd W w (aB bd.length W)):∃r,ax bd W w m=m::r:=by
 have ho:=bK hm
 have hP:=bo hw ho
 cases hp:ax bd W w m with
 |nil=>have:=(hP.mem m).mpr Cn.refl;rw[hp] at this;cases this
 |cons a r=>
  refine⟨r,?_⟩
  rw[hp] at hP
  by_cases e:a=m
  ·rw[e]
  ·have tF:m∈a::r:=(hP.mem m).mpr Cn.refl
   have tF:m∈r:=by
    cases tF with
    |head=>exact absurd rfl e
    |tail _ q=>exact q
   have hc:=(hP.mem a).mp (List.mem_cons_self ..)
   have h1:=(d_ (hc.on hw ho) ho).mp ((List.pairwise_cons.mp hP.rise).1 m tF)
   have:=(fi.mp hm).2.2 a hc
   omega
theorem uU{f:Cell→List Cell}:∀l:List Cell,l.Nodup→(∀a∈l,(f a).Nodup)→(∀a∈l,∀b∈l,∀x,x∈f a→x∈f b→a=b)→(l.flatMap f).Nodup
 |[],_,_,_=>List.nodup_nil
 |a::l,h1,h2,h3=>by
  rw[List.flatMap_cons,List.nodup_append]
  obtain⟨g1,g2⟩:=List.nodup_cons.mp h1
  refine⟨h2 a (List.mem_cons_self ..),uU l g2 (fun b hb=>h2 b (List.mem_cons_of_mem _ hb)) fun b hb c hc=>h3 b (List.mem_cons_of_mem _ hb) c (List.mem_cons_of_mem _ hc),fun x hx y hy e=>?_⟩
  subst e
  obtain⟨b,hb,q⟩:=List.mem_flatMap.mp hy
  have:=h3 a (List.mem_cons_self ..) b (List.mem_cons_of_mem _ hb) x hx q
  subst this
  exact g1 hb
theorem tu:(au bd W w).flatten=(aG bd W w (aB bd.length W)).flatMap (ax bd W w):=by
 unfold au
 rw[List.flatMap_def]
theorem mS(hw:Ways w):(au bd W w).flatten.Nodup:=by
 rw[tu]
 refine uU _ pQ (fun a ha=>RiseC.nodup (bo hw (bK ha)).rise) fun a ha b hb x hx hy=>?_
 exact(gi hw ha hx).one hw ((((bo hw (bK ha)).mem x).mp hx).on hw (bK ha)) (gi hw hb hy)
theorem sH(hw:Ways w){x:Cell}(h:x∈(au bd W w).flatten):On bd.length W x:=by
 obtain⟨P,hP,hx⟩:=List.mem_flatten.mp h
 exact oM hw P hP x hx
theorem o5(hw:Ways w):(au bd W w).flatten.length≤bd.length*W:=iJ (mS hw) fun x hx=>sH hw hx
theorem xi(hg:Brd bd W)(hw:Ways w):gG (au bd W w).flatten=aB bd.length W:=
 du (fU (mS hw)) (bH _ _) fun x=>by
  rw[gY,aM]
  exact⟨sH hw,fun hx=>let ⟨P,h1,h2⟩:=mq hg hw hx;List.mem_flatten.mpr ⟨P,h1,h2⟩⟩
theorem ou(s r:List Cell):aG bd W w (s++r)=aG bd W w s++aG bd W w r:=List.filter_append ..
theorem AQ(hw:Ways w){f:Cell→Nat}(hf:∀x,On bd.length W x→∃P,(au bd W w)[f x]? =some P∧x∈P){s r:List Cell}{x:Cell}(e:s++x::r=aB bd.length W):
 if Least bd W w x x then f x=(aG bd W w s).length else f x<(aG bd W w s).length:=by
 have hx:On bd.length W x:=aM.mp (e▸List.mem_append_right s (List.mem_cons_self ..))
 obtain⟨P,h1,h2⟩:=hf x hx
 obtain⟨m,h3,rfl⟩:=gZ h1
 have hm:=pO h3
 have hl:=gi hw hm h2
 have hs:=ou (bd:=bd) (W:=W) (w:=w) s (x::r)
 rw[e] at hs
 split
 ·rename_i GX
  have:=hl.one hw hx GX
  subst this
  have:(aG bd W w (aB bd.length W))[(aG bd W w s).length]? =some m:=by
   rw[hs,List.getElem?_append_right (Nat.le_refl _),Nat.sub_self]
   unfold aG
   rw[List.filter_cons_of_pos (by rw[decide_eq_true_eq];exact GX)]
   rfl
  exact lX h3 this
 ·rename_i GX
  have dB:m≠x:=fun q=>GX (q▸hl)
  have pH:=bK hm
  have fX:rank W m<rank W x:=by
   have h5:=hl.2 x Cn.refl
   have:rank W m≠rank W x:=fun q=>dB (mD pH hx q)
   omega
  have hR:=bH bd.length W
  rw[←e] at hR
  have HM:m∈s:=by
   have:=aM.mpr pH
   rw[←e] at this
   rcases List.mem_append.mp this with q | q
   ·exact q
   ·cases q with
    |head=>exact absurd rfl dB
    |tail _ q=>
     have:=(d_ hx pH).mp ((List.pairwise_cons.mp (List.pairwise_append.mp hR).2.1).1 m q)
     omega
  have Lf:m∈aG bd W w s:=fi.mpr ⟨HM,(fi.mp hm).2⟩
  obtain⟨j,hj,q⟩:=List.getElem_of_mem Lf
  have:(aG bd W w (aB bd.length W))[j]? =some m:=by
   rw[hs,List.getElem?_append_left hj,List.getElem?_eq_getElem hj,q]
  rw[lX h3 this]
  exact hj
theorem Eb{a b:Cell}:∀{j:Nat},Rb (aS bd W 4) a j b→Rb (aS bd W 8) a j b
 |0,h=>h
 |j+1,h=>h.elim (fun q=> .inl (Eb q)) fun⟨y,q1,q2⟩=> .inr ⟨y,Eb q1,by
  have:=(bF (.inl rfl)).mp q2
  exact(bF (.inr rfl)).mpr ⟨this.1,FR this.2.1,this.2.2⟩⟩
theorem ET{a b:Cell}(h:Cn bd W 4 a b):Cn bd W 8 a b:=let ⟨j,q⟩:=h;⟨j,Eb q⟩
theorem Hk:(au bd W 8).length≤(au bd W 4).length:=by
 unfold au
 rw[List.length_map,List.length_map]
 unfold aG
 rw[←List.countP_eq_length_filter,←List.countP_eq_length_filter]
 refine List.countP_mono_left fun x _ h=>?_
 rw[decide_eq_true_eq] at h⊢
 exact⟨Cn.refl,fun z hz=>h.2 z (ET hz)⟩
theorem mH(c W:Nat){j:Nat}(h:j<W):ch (bX ⟨#[c]⟩ W) j=c:=by
 unfold ch
 rw[dP]
 have:(List.replicate W (⟨#[c]⟩:Str).cps.toList).flatten=List.replicate W c:=by
  rw[show (⟨#[c]⟩:Str).cps.toList=[c] from rfl]
  clear h
  induction W with
  |zero=>rfl
  |succ n ih=>rw[List.replicate_succ,List.flatten_cons,ih];rfl
 rw[this,List.getD_eq_getElem?_getD,List.getElem?_replicate,if_pos h]
 rfl
theorem vA{c:Nat}(hc:z_ ⟨#[c]⟩=true)(W:Nat):Row W (bX ⟨#[c]⟩ W):=by
 have:(bX ⟨#[c]⟩ W).cps.toList=List.replicate W c:=by
  rw[dP,show (⟨#[c]⟩:Str).cps.toList=[c] from rfl]
  induction W with
  |zero=>rfl
  |succ n ih=>rw[List.replicate_succ,List.flatten_cons,ih];rfl
 refine⟨?_,fun z hz=>?_⟩
 ·show (bX ⟨#[c]⟩ W).cps.size=W
  rw[←Array.length_toList,this,List.length_replicate]
 ·rw[this] at hz
  rw[(List.mem_replicate.mp hz).2]
  exact hc
theorem kW{r:Str}{x:Cell}(h:x.1<bd.length):lt (bd++[r]) x=lt bd x:=by
 unfold lt at2
 rw[List.getD_eq_getElem?_getD,List.getElem?_append_left h,←List.getD_eq_getElem?_getD]
theorem kU{r:Str}{j:Nat}:lt (bd++[r]) (bd.length,j)=ch r j:=by
 unfold lt at2
 rw[List.getD_eq_getElem?_getD,List.getElem?_append_right (Nat.le_refl _),Nat.sub_self]
 rfl
variable{c:Nat}
theorem c8(r:Str):(bd++[r]).length=bd.length+1:=by simp
theorem oi(hw:Ways w)(dB:∀x,On bd.length W x→lt bd x≠c){x y:Cell}(hx:On bd.length W x):y∈aS (bd++[bX ⟨#[c]⟩ W]) W w x↔y∈aS bd W w x:=by
 rw[bF hw,bF hw,c8,kW hx.1]
 constructor
 ·rintro⟨h1,h2,h3⟩
  by_cases e:y.1<bd.length
  ·rw[kW e] at h3
   exact⟨⟨e,h1.2⟩,h2,h3⟩
  ·obtain⟨a,b⟩:=y
   have:a=bd.length:=by have:=h1.1;simp only at this e;omega
   subst this
   rw[kU,mH c W h1.2] at h3
   exact absurd h3.symm (dB x hx)
 ·rintro⟨h1,h2,h3⟩
  rw[kW h1.1]
  exact⟨⟨Nat.lt_succ_of_lt h1.1,h1.2⟩,h2,h3⟩
theorem gX(hw:Ways w)(dB:∀x,On bd.length W x→lt bd x≠c){x:Cell}(hx:On bd.length W x):∀{j:Nat}{y:Cell},Rb (aS (bd++[bX ⟨#[c]⟩ W]) W w) x j y↔Rb (aS bd W w) x j y
 |0,y=>Iff.rfl
 |j+1,y=>by
  constructor
  ·rintro(q | ⟨z,q1,q2⟩)
   ·exact .inl ((gX hw dB hx).mp q)
   ·have:=(gX hw dB hx).mp q1
    exact .inr ⟨z,this,(oi hw dB (r6 hw hx this)).mp q2⟩
  ·rintro(q | ⟨z,q1,q2⟩)
   ·exact .inl ((gX hw dB hx).mpr q)
   ·exact .inr ⟨z,(gX hw dB hx).mpr q1,(oi hw dB (r6 hw hx q1)).mpr q2⟩
theorem u6(hw:Ways w)(dB:∀x,On bd.length W x→lt bd x≠c){x y:Cell}(hx:On bd.length W x):Cn (bd++[bX ⟨#[c]⟩ W]) W w x y↔Cn bd W w x y:=
 ⟨fun ⟨j,q⟩=>⟨j,(gX hw dB hx).mp q⟩,fun⟨j,q⟩=>⟨j,(gX hw dB hx).mpr q⟩⟩
theorem oF(hw:Ways w)(i j:Nat):hX w (i,j) (i,j+1)=true:=by
 rcases hw with rfl | rfl
 ·simp[hX,eU]
 ·simp[hX,eU]
theorem yK(hw:Ways w)(i j:Nat):hX w (i,j) (i+1,j)=true:=by
 rcases hw with rfl | rfl
 ·simp[hX,eU]
 ·simp[hX,eU]
theorem rz(hw:Ways w):∀{j:Nat},j<W→Cn (bd++[bX ⟨#[c]⟩ W]) W w (bd.length,0) (bd.length,j)
 |0,_=>Cn.refl
 |j+1,h=>(rz hw (Nat.lt_of_succ_lt h)).step ((bF hw).mpr ⟨⟨by rw[c8];exact Nat.lt_succ_self _,h⟩,oF hw _ _,by rw[kU,kU,mH c W h,mH c W (Nat.lt_of_succ_lt h)]⟩)
theorem lg(R W:Nat):aB (R+1) W=aB R W++bN W R:=by
 unfold aB
 rw[List.range_succ,List.flatMap_append]
 simp
theorem wu(hw:Ways w)(hW:1≤W)(dB:∀x,On bd.length W x→lt bd x≠c):(au (bd++[bX ⟨#[c]⟩ W]) W w).length=(au bd W w).length+1:=by
 unfold au
 rw[List.length_map,List.length_map,c8,lg,ou,List.length_append]
 congr 1
 ·congr 1
  unfold aG
  refine List.filter_congr fun x hx=>?_
  have hx:=aM.mp hx
  rw[decide_eq_decide]
  unfold Least
  constructor
  ·rintro⟨_,h⟩
   exact⟨Cn.refl,fun z hz=>h z ((u6 hw dB hx).mpr hz)⟩
  ·rintro⟨_,h⟩
   exact⟨Cn.refl,fun z hz=>h z ((u6 hw dB hx).mp hz)⟩
 ·have hR:RiseC (bN W bd.length):=by
   have:=bH (bd.length+1) W
   rw[lg] at this
   exact(List.pairwise_append.mp this).2.1
  have:aG (bd++[bX ⟨#[c]⟩ W]) W w (bN W bd.length)=[(bd.length,0)]:=by
   refine du (by unfold aG;exact hR.filter _) (List.pairwise_singleton ..) fun x=>?_
   rw[fi,List.mem_singleton]
   constructor
   ·rintro⟨h1,h2⟩
    obtain⟨j,hj,rfl⟩:=List.mem_map.mp h1
    have hj:=List.mem_range.mp hj
    have:=h2.2 (bd.length,0) ((rz hw hj).symm hw ⟨by rw[c8];exact Nat.lt_succ_self _,hW⟩)
    unfold rank at this
    simp only at this
    have:j=0:=by omega
    rw[this]
   ·rintro rfl
    refine⟨List.mem_map.mpr ⟨0,List.mem_range.mpr hW,rfl⟩,Cn.refl,fun z hz=>?_⟩
    have lC:On (bd++[bX ⟨#[c]⟩ W]).length W (bd.length,0):=⟨by rw[c8];exact Nat.lt_succ_self _,hW⟩
    have Ij:=hz.on hw lC
    have Ik:=hz.letter hw
    rw[kU,mH c W hW] at Ik
    rw[c8] at Ij
    obtain⟨a,b⟩:=z
    by_cases e:a<bd.length
    ·rw[kW (x:=(a,b)) e] at Ik
     exact absurd Ik (dB (a,b) ⟨e,Ij.2⟩)
    ·have:a=bd.length:=by have:=Ij.1;simp only at this;omega
     subst this
     unfold rank
     simp
  rw[this]
  rfl
theorem kZ{R:Nat}{x:Cell}(hx:On R W x):lt (List.replicate R (bX ⟨#[c]⟩ W)) x=c:=by
 unfold lt at2
 rw[List.getD_eq_getElem?_getD,List.getElem?_replicate,if_pos hx.1]
 exact mH c W hx.2
theorem ql(hw:Ways w){R:Nat}(hR:1≤R)(hW:1≤W):∀{i j:Nat},i<R→j<W→Cn (List.replicate R (bX ⟨#[c]⟩ W)) W w (0,0) (i,j)
 |0,0,_,_=>Cn.refl
 |i+1,0,hi,hj=>(ql hw hR hW (Nat.lt_of_succ_lt hi) hj).step ((bF hw).mpr ⟨⟨by rw[List.length_replicate];exact hi,hj⟩,yK hw _ _,by rw[kZ ⟨hi,hj⟩,kZ ⟨Nat.lt_of_succ_lt hi,hj⟩]⟩)
 |i,j+1,hi,hj=>(ql hw hR hW hi (Nat.lt_of_succ_lt hj)).step ((bF hw).mpr ⟨⟨by rw[List.length_replicate];exact hi,hj⟩,oF hw _ _,by rw[kZ ⟨hi,hj⟩,kZ ⟨hi,Nat.lt_of_succ_lt hj⟩]⟩)
theorem zI(hw:Ways w){R:Nat}(hR:1≤R)(hW:1≤W):(au (List.replicate R (bX ⟨#[c]⟩ W)) W w).length=1:=by
 unfold au
 rw[List.length_map,List.length_replicate]
 have:aG (List.replicate R (bX ⟨#[c]⟩ W)) W w (aB R W)=[(0,0)]:=by
  refine du (by unfold aG;exact(bH _ _).filter _) (List.pairwise_singleton ..) fun x=>?_
  rw[fi,List.mem_singleton,aM]
  constructor
  ·rintro⟨h1,h2⟩
   have:=h2.2 (0,0) ((ql hw hR hW h1.1 h1.2).symm hw ⟨by rw[List.length_replicate];exact hR,hW⟩)
   unfold rank at this
   obtain⟨a,b⟩:=x
   simp only at this
   have hb:b=0:=by omega
   have ha:a*W=0:=by omega
   rcases Nat.mul_eq_zero.mp ha with q | q
   ·rw[q,hb]
   ·omega
  ·rintro rfl
   exact⟨⟨hR,hW⟩,Cn.refl,fun z _=>by unfold rank;simp⟩
 rw[this]
 rfl
end
theorem ot{val:Nat→Str}{x:Str}:∀{n:Nat},(∀i,i<n→val i=x)→0<n→dI val n=[x]
 |1,h,_=>by
  show lV [] (val 0)=_
  rw[h 0 (by decide)]
  rfl
 |n+2,h,_=>by
  show lV (dI val (n+1)) (val (n+1))=_
  rw[ot (fun i hi=>h i (Nat.lt_succ_of_lt hi)) (Nat.succ_pos _),h (n+1) (Nat.lt_succ_self _)]
  unfold lV
  rw[if_pos (List.mem_singleton.mpr rfl)]
section
open Classical
variable{bd:List Str}{W w:Nat}
theorem rp(hg:Brd bd W){c:Cell}(h:On bd.length W c):bZ [brd bd,cD c]=M.ret (sg (lt bd c)):=
 a9 (ah (bq ((ao (ds:=[brd bd]) rfl rfl).trans hg.nb)) (ah (bq ((ao (ds:=[brd bd,cD c]) rfl rfl).trans (hg.nc h))) (aK ((ao (ds:=[brd bd,cD c]) rfl rfl).trans (eW hg h)))))
abbrev h9(s b:D)(x2 x3 x4 x5 x6 x7 x8 x9 x10 x11:Option Sl):a5:=[fz s,fz b,x2,x3,x4,x5,x6,x7,x8,x9,x10,x11]
def l9(R W:Nat)(f:Cell→Nat):D:= .lst ((List.range R).map fun r=> .lst ((bN W r).map fun y=> .int (f y:Int)))
theorem Jn{ds:List D}{i:Nat}{d:D}(h:ds[i]? =some d):cx (.lst ds) (.int (i:Int))=M.ret d:=by
 show (match L2.atI ds (i:Int) with | some d=>M.ret d | none=>M.stuck)=_
 rw[d8 h]
theorem vB{R:Nat}{f:Cell→Nat}{x:Cell}(hx:On R W x){b i:Nat}{ρ:a5}(hb:dV b ρ=M.ret (l9 R W f))(hi:dV i ρ=M.ret (cD x)):d2 cx (d2 cx (dV b) (d2 aU (dV i) (dC (.int 0)))) (d2 aU (dV i) (dC (.int 1))) ρ=M.ret (.int (f x:Int)):=by
 have e1:d2 cx (dV b) (d2 aU (dV i) (dC (.int 0))) ρ=M.ret (.lst ((bN W x.1).map fun y=> .int (f y:Int))):=
  (aL (x:=l9 R W f) (y:= .int (x.1:Int)) hb ((aL (x:=cD x) (y:= .int 0) hi rfl).trans rfl)).trans (Jn (by rw[List.getElem?_map,List.getElem?_range hx.1];rfl))
 refine(aL e1 ((aL (x:=cD x) (y:= .int 1) hi rfl).trans rfl:_=M.ret (.int (x.2:Int)))).trans (Jn ?_)
 unfold bN
 rw[List.getElem?_map,List.getElem?_map,List.getElem?_range hx.2]
 rfl
def Iq:DS:=(cb [8] (az (eB (c0 (d2 g7 (ak 3 dm (aC (dV 1) (aC (dV 8) (aC (dV 2) aN)))) (dV 7))) (aW (dC (.bl false))) bT) (eB (cq (b7 (ak 4 d5 (aC (dV 1) (aC (dV 2) (aC (dV 8) (aC (d2 cx (dV 7) (dC (.int 0))) aN))))))) (aW (dC (.bl false))) bT)))
def CA:DS:=(cb [6,7,8] (az (bO 5 (d2 lx (dV 5) (dV 7))) (az (eB (c0 (d2 g7 (aX 0 (ck (dV 7)) (c0 (d2 g7 (d2 cx (d2 cx (dV 5) (d2 aU (dV 0) (dC (.int 0)))) (d2 aU (dV 0) (dC (.int 1)))) (dV 7))) (dV 0)) (dA cO aN))) (aW (dC (.bl false))) bT) (az (eB (c0 (d2 g7 (d1 et (aX 0 (ck (dV 7)) bW (ak 2 bZ (aC (dV 2) (aC (dV 0) aN))))) (dC (.int 1)))) (aW (dC (.bl false))) bT) (da (putN 8) (ck (Hh (dV 7) oN (oS (dC (.int 3))))) Iq)))))
theorem vH(g:Cell→Nat):∀l:List Cell,jW (l.map fun x=>sg (g x))=some (l.map fun x=>(⟨#[g x]⟩:Str))
 |[]=>rfl
 |x::l=>by
  show (jW (l.map fun x=>sg (g x))).map _=_
  rw[vH g l]
  rfl
theorem BA{g:Cell→Nat}{l:List Cell}{c:Nat}(h:∀x∈l,g x=c)(h0:0<l.length)(hl:l.length≤64):et (.lst (l.map fun x=>sg (g x)))=M.ret (.int 1):=by
 show (match jW (l.map fun x=>sg (g x)) with | some xs=>if xs.length≤64 then M.ret (D.int (dI (fun i=>xs.getD i ⟨#[]⟩) xs.length).length) else M.stuck | none=>M.stuck)=_
 rw[vH]
 show (if (l.map fun x=>(⟨#[g x]⟩:Str)).length≤64 then M.ret (D.int (dI (fun i=>(l.map fun x=>(⟨#[g x]⟩:Str)).getD i ⟨#[]⟩) (l.map fun x=>(⟨#[g x]⟩:Str)).length).length) else M.stuck)=_
 rw[if_pos (by rw[List.length_map];exact hl),ot (x:=(⟨#[c]⟩:Str)) (fun i hi=>?_) (by rw[List.length_map];exact h0)]
 ·rfl
 ·rw[List.length_map] at hi
  rw[List.getD_eq_getElem?_getD,List.getElem?_map,List.getElem?_eq_getElem hi]
  show (⟨#[g l[i]]⟩:Str)=_
  rw[h _ (List.getElem_mem hi)]
theorem Cz(P:List Cell):∃P',IQ (cL P) none (some 3)=M.ret (cL P')∧∀x∈P',x∈P:=
 ⟨_,by
  show M.ret (D.lst (L3.cutD (P.map cD) none (some 3)))=_
  unfold L3.cutD
  rw[←List.map_drop,←List.map_take],fun x hx=>List.drop_subset _ _ (List.take_subset _ _ hx)⟩
variable{s:D}{x9 x10 x11:Option Sl}
theorem xR(hg:Brd bd W)(hs:bd.length*W<64)(hw:Ways w){f:Cell→Nat}(hf:∀x,On bd.length W x→∃P,(au bd W w)[f x]? =some P∧x∈P){S:D}{acc P:List Cell}{i:Nat}(hi:(au bd W w)[i]? =some P)(hl:acc.length+P.length≤64):
 CA (h9 s (brd bd) (fz (.int (w:Int))) (fz S) (fz (l9 bd.length W f)) (fz (cL acc)) (fz (.int (i:Int))) (fz (cL P)) none x9 x10 x11)=M.ret (.nx (h9 s (brd bd) (fz (.int (w:Int))) (fz S) (fz (l9 bd.length W f)) (fz (cL (acc++P))) none none none x9 x10 x11)):=by
 obtain⟨m,e1,rfl⟩:=gZ hi
 have hm:=pO e1
 have pH:=bK hm
 have hP:=bo hw pH
 have G2:∀x∈ax bd W w m,On bd.length W x:=fun x hx=>((hP.mem x).mp hx).on hw pH
 obtain⟨r,hr⟩:=iy hw hm
 have KS:∀x∈ax bd W w m,f x=i:=fun x hx=>by
  obtain⟨Q,q1,q2⟩:=hf x (G2 x hx)
  exact AA hw q1 hi q2 hx
 have HY:0<(ax bd W w m).length:=by rw[hr];exact Nat.succ_pos _
 have fX:∀x∈ax bd W w m,lt bd x=lt bd m:=fun x hx=>((hP.mem x).mp hx).letter hw
 have e0:cx (cL (ax bd W w m)) (.int 0)=M.ret (cD m):=by
  rw[hr]
  exact tJ (l:=m::r) (i:=0) rfl
 generalize ax bd W w m=P at*
 obtain⟨P',c1,c2⟩:=Cz P
 have ct:lx (cL acc) (cL P)=M.ret (cL (acc++P)):=by
  show (if (acc.map cD).length+(P.map cD).length≤lim then M.ret (D.lst (acc.map cD++P.map cD)) else M.stuck)=_
  rw[if_pos (by rw[List.length_map,List.length_map,cW];omega),←List.map_append]
 refine(bt (ρ':=h9 s (brd bd) (fz (.int (w:Int))) (fz S) (fz (l9 bd.length W f)) (fz (cL (acc++P))) (fz (.int (i:Int))) (fz (cL P)) none x9 x10 x11) (ah (ρ':=h9 s (brd bd) (fz (.int (w:Int))) (fz S) (fz (l9 bd.length W f)) (fz (cL (acc++P))) (fz (.int (i:Int))) (fz (cL P)) none x9 x10 x11) ((aT ((aL (x:=cL acc) (y:=cL P) rfl rfl).trans ct)).trans rfl) ?_)).trans rfl
 refine ah (cJ (oE (xs:=P) (FG (i:=7) rfl) fun x hx=>?_) rfl) ?_
 ·refine gL ((aL (vB (b:=5) (i:=0) (f:=f) (G2 x hx) rfl rfl) (y:= .int (i:Int)) rfl).trans ?_)
  rw[KS x hx,va,beq_self_eq_true]
  rfl
 refine ah (cJ (gL ((aL (x:= .int 1) (y:= .int 1) ?_ rfl).trans rfl)) rfl) ?_
 ·show (aX 0 (ck (dV 7)) bW (ak 2 bZ (aC (dV 2) (aC (dV 0) aN))) _>>=et)=_
  rw[bV (ys:=P.map fun x=>sg (lt bd x)) (FG (i:=7) (ds:=P.map cD) rfl) (fE cD (fun x=>sg (lt bd x)) _ fun x hx=>?_) (by rw[List.length_map,cW];omega),aq,BA fX HY (by omega)]
  rw[ir,(ao (ds:=[brd bd,cD x]) rfl rfl:ak 2 bZ (aC (dV 2) (aC (dV 0) aN)) _=_),rp hg (G2 x hx)]
  rfl
 refine eA (ds:=P'.map cD) (AG ?_) (gT cD _ P' fun x hx=>⟨_,rfl,?_⟩)
 ·show IQ (cL P) none (some 3)=_
  exact c1
 ·have hx:=c2 x hx
  have JY:=G2 x hx
  obtain⟨Q,hQ,eQ⟩:=p7 hg hs hw JY
  have CO:=(hP.mem x).mp hx
  have:Q=P:=du hQ.rise hP.rise fun y=>by
   rw[hQ.mem,hP.mem]
   exact⟨fun q=>CO.trans q,fun q=>(CO.symm hw pH).trans q⟩
  subst this
  obtain⟨b,hb,eb⟩:=qH hg hw JY pH
  have KJ:b=true:=hb.mpr (CO.symm hw pH)
  subst KJ
  refine(bt (ah (cJ (gL ((aL (y:=cL Q) ((ao (ds:=[brd bd,cD x, .int (w:Int)]) rfl rfl).trans eQ) rfl).trans ((yD _ _).trans (by rw[decide_eq_true rfl];rfl)))) rfl) (cJ ((tf (b:=true) (pw ((ao (ds:=[brd bd, .int (w:Int),cD x,cD m]) (bg rfl (bg rfl (bg rfl (bg ((aL (x:=cL Q) (y:= .int 0) rfl rfl).trans e0) rfl)))) rfl).trans eb))).trans rfl) rfl))).trans rfl
theorem nN(hg:Brd bd W)(hs:bd.length*W<64)(hw:Ways w){f:Cell→Nat}(hf:∀x,On bd.length W x→∃P,(au bd W w)[f x]? =some P∧x∈P){S:D}:∀(qs:List (Nat×List Cell)) (acc:List Cell),(∀q∈qs,(au bd W w)[q.1]? =some q.2)→acc.length+(qs.map (·.2)).flatten.length≤64→
 forL (mC [6,7]) CA (qs.map Eu) (h9 s (brd bd) (fz (.int (w:Int))) (fz S) (fz (l9 bd.length W f)) (fz (cL acc)) none none none x9 x10 x11)=M.ret (.nx (h9 s (brd bd) (fz (.int (w:Int))) (fz S) (fz (l9 bd.length W f)) (fz (cL (acc++(qs.map (·.2)).flatten))) none none none x9 x10 x11))
 |[],acc,_,_=>by simp;rfl
 |q::qs,acc,h,hl=>by
  rw[List.map_cons,List.flatten_cons,List.length_append] at hl
  rw[List.map_cons,cF rfl (xR hg hs hw hf (h q (List.mem_cons_self ..)) (by omega)),nN hg hs hw hf qs (acc++q.2) (fun p hp=>h p (List.mem_cons_of_mem _ hp)) (by rw[List.length_append];omega)]
  simp
def mW(n:Nat):D:= .lst (((List.range n).map fun(i:Nat)=>(i:Int)).map D.int)
def Dq:DS:=(cb [6,8] (az (bO 6 (d2 cx (d2 cx (dV 4) (d2 aU (dV 8) (dC (.int 0)))) (d2 aU (dV 8) (dC (.int 1))))) (bO 9 (d2 lx (dV 9) (d2 An (dA cO (aC (dV 6) aN)) (dA yr (aC (d2 (ly true) (dV 6) (dV 9)) aN)))))))
theorem rH:∀l:List Int,nums (l.map D.int)=some l
 |[]=>rfl
 |i::l=>by
  show (nums (l.map D.int)).map _=_
  rw[rH l]
  rfl
theorem AD(k n:Nat):ly true (.int (k:Int)) (mW n)=M.ret (.bl (!decide (k<n))):=by
 show (match nums (((List.range n).map fun(i:Nat)=>(i:Int)).map D.int) with | some ns=>M.ret (D.bl (if true then !ns.contains (k:Int) else ns.contains (k:Int))) | none=>M.stuck)=_
 rw[rH]
 show M.ret (D.bl (!(((List.range n).map fun(i:Nat)=>(i:Int)).contains (k:Int))))=_
 congr 3
 rw[Bool.eq_iff_iff,List.contains_iff_mem,decide_eq_true_eq,List.mem_map]
 constructor
 ·rintro⟨a,h1,h2⟩
  have:=List.mem_range.mp h1
  omega
 ·intro h
  exact⟨k,List.mem_range.mpr h,rfl⟩
variable{x3 x5 x7:Option Sl}
theorem yB{f:Cell→Nat}{x:Cell}(hx:On bd.length W x){n n':Nat}(hn:n≤64)(h:(f x=n∧n'=n+1)∨(f x<n∧n'=n)):
 Dq (h9 s (brd bd) (fz (.int (w:Int))) x3 (fz (l9 bd.length W f)) x5 none x7 (fz (cD x)) (fz (mW n)) x10 x11)=M.ret (.nx (h9 s (brd bd) (fz (.int (w:Int))) x3 (fz (l9 bd.length W f)) x5 none x7 none (fz (mW n')) x10 x11)):=by
 refine(bt (ρ':=h9 s (brd bd) (fz (.int (w:Int))) x3 (fz (l9 bd.length W f)) x5 (fz (.int (f x:Int))) x7 (fz (cD x)) (fz (mW n')) x10 x11) (ah (ρ':=h9 s (brd bd) (fz (.int (w:Int))) x3 (fz (l9 bd.length W f)) x5 (fz (.int (f x:Int))) x7 (fz (cD x)) (fz (mW n)) x10 x11) ((aT (vB (b:=4) (i:=8) (f:=f) hx rfl rfl)).trans rfl) ((aT (d:=mW n') ?_).trans rfl))).trans rfl
 have e1:dA yr (aC (d2 (ly true) (dV 6) (dV 9)) aN) (h9 s (brd bd) (fz (.int (w:Int))) x3 (fz (l9 bd.length W f)) x5 (fz (.int (f x:Int))) x7 (fz (cD x)) (fz (mW n)) x10 x11)=M.ret (.int (if f x<n then 0 else 1)):=by
  refine(cK (xs:=[.bl (!decide (f x<n))]) (bg ((aL (x:= .int (f x:Int)) (y:=mW n) rfl rfl).trans (AD _ _)) rfl)).trans ?_
  by_cases q:f x<n
  ·rw[if_pos q,decide_eq_true q];rfl
  ·rw[if_neg q,decide_eq_false q];rfl
 rcases h with⟨h1,h2⟩ | ⟨h1,h2⟩
 ·rw[if_neg (by omega)] at e1
  refine(aL (x:=mW n) (y:= .lst [.int (f x:Int)]) rfl ((aL (x:= .lst [.int (f x:Int)]) rfl e1).trans rfl)).trans ?_
  show (if (((List.range n).map fun(i:Nat)=>(i:Int)).map D.int).length+1≤lim then M.ret (D.lst (((List.range n).map fun(i:Nat)=>(i:Int)).map D.int++[.int (f x:Int)])) else M.stuck)=_
  rw[if_pos (by rw[List.length_map,List.length_map,List.length_range,cW];omega)]
  subst h2
  unfold mW
  rw[List.range_succ,List.map_append,List.map_append,h1]
  rfl
 ·rw[if_pos h1] at e1
  refine(aL (x:=mW n) (y:= .lst []) rfl ((aL (x:= .lst [.int (f x:Int)]) rfl e1).trans rfl)).trans ?_
  show (if (((List.range n).map fun(i:Nat)=>(i:Int)).map D.int).length+0≤lim then M.ret (D.lst (((List.range n).map fun(i:Nat)=>(i:Int)).map D.int++[])) else M.stuck)=_
  rw[if_pos (by rw[List.length_map,List.length_map,List.length_range,cW];omega),List.append_nil,h2]
  rfl
theorem oy(hw:Ways w)(hs:bd.length*W<64){f:Cell→Nat}(hf:∀x,On bd.length W x→∃P,(au bd W w)[f x]? =some P∧x∈P):∀(r t:List Cell),t++r=aB bd.length W→
 forL (putN 8) Dq (r.map cD) (h9 s (brd bd) (fz (.int (w:Int))) x3 (fz (l9 bd.length W f)) x5 none x7 none (fz (mW (aG bd W w t).length)) x10 x11)=M.ret (.nx (h9 s (brd bd) (fz (.int (w:Int))) x3 (fz (l9 bd.length W f)) x5 none x7 none (fz (mW (au bd W w).length)) x10 x11))
 |[],t,e=>by
  rw[List.append_nil] at e
  unfold au
  rw[List.length_map,←e]
  rfl
 |x::r,t,e=>by
  have hx:On bd.length W x:=aM.mp (e▸List.mem_append_right t (List.mem_cons_self ..))
  have hn:=AQ hw hf e
  have hle:(aG bd W w t).length≤64:=by
   have h1:t.length≤(aB bd.length W).length:=by rw[←e,List.length_append];omega
   rw[cy] at h1
   have h2:(aG bd W w t).length≤t.length:=by unfold aG;exact List.length_filter_le ..
   omega
  have Lv:=eu (bd:=bd) (W:=W) (w:=w) t x
  rw[List.map_cons,cF (ρ2:=h9 s (brd bd) (fz (.int (w:Int))) x3 (fz (l9 bd.length W f)) x5 none x7 none (fz (mW (aG bd W w (t++[x])).length)) x10 x11) rfl (yB hx hle ?_),oy hw hs hf r (t++[x]) (by rw[List.append_assoc];exact e)]
  rw[Lv]
  split at hn
  ·rename_i q
   rw[if_pos q]
   exact .inl ⟨hn,by rw[List.length_append];rfl⟩
  ·rename_i q
   rw[if_neg q]
   exact .inr ⟨hn,rfl⟩
end
section
open Classical
variable{bd:List Str}{W w:Nat}{s:D}{x7 x11:Option Sl}
def EN:DS:=(cb [2,3,4,5,6,7,8,9,10] (az (bO 3 (ak 2 br (aC (dV 1) (aC (dV 2) aN)))) (az (bO 4 (ak 2 dj (aC (dV 1) (aC (dV 2) aN)))) (az (eB (c0 (d2 g7 (dA a_ (aC (dV 3) aN)) (ak 2 bh (aC (dV 1) (aC (dV 2) aN))))) (aW (dC (.bl false))) bT) (az (eB (c0 (d2 g7 (aX 0 (ck (dV 3)) bW (d2 cx (dV 0) (dC (.int 0)))) (dA uv (aC (aX 0 (ck (dV 3)) bW (d2 cx (dV 0) (dC (.int 0)))) aN)))) (aW (dC (.bl false))) bT) (az (bO 5 (dA cO aN)) (az (da (mC [6,7]) (fun ρ=>(aC (dV 3) aN) ρ>>=nP) CA) (az (eB (c0 (d2 g7 (dA uv (aC (dV 5) aN)) (ak 1 eK (aC (dV 1) aN)))) (aW (dC (.bl false))) bT) (az (bO 9 (dA cO aN)) (az (Bx [6,8] (da (putN 8) (ck (ak 1 eK (aC (dV 1) aN))) Dq)) (az (eB (c0 (d2 g7 (dV 9) (d1 oj (dA a_ (aC (dV 3) aN))))) (aW (dC (.bl false))) bT) (az (bO 10 (d2 j6 (dV 1) (dA c9 (aC (d2 lz (dC (.str "e")) (dA a_ (aC (d2 aU (dV 1) (dC (.int 0))) aN))) aN)))) (az (eB (c0 (d2 g7 (ak 2 bh (aC (dV 10) (aC (dV 2) aN))) (d2 c6 (dA a_ (aC (dV 3) aN)) (dC (.int 1))))) (aW (dC (.bl false))) bT) (eB (c0 (d2 g7 (ak 2 bh (aC (d2 rb (dA c9 (aC (d2 lz (dC (.str "d")) (dA a_ (aC (d2 aU (dV 1) (dC (.int 0))) aN))) aN)) (dA a_ (aC (dV 1) aN))) (aC (dV 2) aN))) (dC (.int 1)))) (aW (dC (.bl false))) bT))))))))))))))
theorem si{x:Str}(h1:x.length=1)(hW:W≤64):lz (.str x) (.int (W:Int))=M.ret (.str (bX x W)):=by
 show (if (0≤(W:Int)∧(W:Int)≤64)∧x.length*(W:Int).toNat≤lim then M.ret (D.str (bX x (W:Int).toNat)) else M.stuck)=_
 rw[if_pos ⟨⟨by omega,by omega⟩,by rw[h1,cW];omega⟩]
 rfl
theorem q0{α:Type}(x:α):∀n:Nat,(List.replicate n [x]).flatten=List.replicate n x
 |0=>rfl
 |n+1=>by rw[List.replicate_succ,List.flatten_cons,q0 x n];rfl
theorem zA{r:Str}{R:Nat}(h1:1≤R)(h8:R≤8):rb (.tup [.str r]) (.int (R:Int))=M.ret (brd (List.replicate R r)):=by
 show (if (R:Int)=1 then M.ret (D.tup [.str r]) else if (2≤(R:Int)∧(R:Int)≤64)∧1≠0∧1*(R:Int).toNat≤lim then M.ret (D.tup (List.replicate (R:Int).toNat [.str r]).flatten) else M.stuck)=_
 by_cases e:R=1
 ·subst e
  exact if_pos rfl
 ·rw[if_neg (by omega),if_pos ⟨⟨by omega,by omega⟩,by decide,by rw[cW];omega⟩,Int.toNat_natCast,q0,brd,List.map_replicate]
theorem nU(hg:Brd bd W)(hs:bd.length*W<64)(hw:Ways w){ρ:a5}(h:ρ[3]? =some (fz (.lst ((au bd W w).map cL)))):aX 0 (ck (dV 3)) bW (d2 cx (dV 0) (dC (.int 0))) ρ=M.ret (cL (aG bd W w (aB bd.length W))):=by
 have hl:=lN (bd:=bd) (W:=W) (w:=w)
 refine bV (FG h) ?_ ?_
 ·unfold au
  rw[List.map_map]
  refine fE (fun m=>cL (ax bd W w m)) cD _ fun m hm=>?_
  obtain⟨r,hr⟩:=iy hw hm
  rw[ir,(aL (x:=cL (ax bd W w m)) (y:= .int 0) rfl rfl:d2 cx (dV 0) (dC (.int 0)) (fz (cL (ax bd W w m))::ρ)=_),hr,show cx (cL (m::r)) (.int 0)=M.ret (cD m) from tJ (l:=m::r) (i:=0) rfl]
  rfl
 ·have:(aG bd W w (aB bd.length W)).length=(au bd W w).length:=by unfold au;rw[List.length_map]
  rw[List.length_map,this,cW]
  omega
theorem xy(hg:Brd bd W)(h5:bd.length≤5)(w5:W≤5)(hw:Ways w)(dB:∀x,On bd.length W x→lt bd x≠101):
 EN (h9 s (brd bd) (fz (.int (w:Int))) none none none none none none none none x11)=M.ret (.nx (h9 s (brd bd) none none none none none none none none none x11)):=by
 have hs:bd.length*W<64:=by
  have:=Nat.mul_le_mul h5 w5
  omega
 have L_:=lN (bd:=bd) (W:=W) (w:=w)
 obtain⟨f,hf,ef⟩:=pR hg hs hw
 have Le:(aG bd W w (aB bd.length W)).length<64:=by
  have:(aG bd W w (aB bd.length W)).length=(au bd W w).length:=by unfold au;rw[List.length_map]
  omega
 have ln:∀ρ:a5,ρ[3]? =some (fz (.lst ((au bd W w).map cL)))→dA a_ (aC (dV 3) aN) ρ=M.ret (.int ((au bd W w).length:Int)):=fun ρ h=>by
  refine(cK (xs:=[.lst ((au bd W w).map cL)]) (bg (ll h) rfl)).trans ?_
  show M.ret (D.int (((au bd W w).map cL).length:Int))=_
  rw[List.length_map]
 let S:D:= .lst ((au bd W w).map cL)
 refine(bt (ρ':=h9 s (brd bd) (fz (.int (w:Int))) (fz S) (fz (l9 bd.length W f)) (fz (cL (au bd W w).flatten)) none none none (fz (mW (au bd W w).length)) (fz (brd (bd++[bX ⟨#[101]⟩ W]))) x11) ?_).trans rfl
 refine ah (ρ':=h9 s (brd bd) (fz (.int (w:Int))) (fz S) none none none none none none none x11) ((aT ((ao (ds:=[brd bd, .int (w:Int)]) rfl rfl).trans (gq hg hs hw))).trans rfl) ?_
 refine ah (ρ':=h9 s (brd bd) (fz (.int (w:Int))) (fz S) (fz (l9 bd.length W f)) none none none none none none x11) ((aT ((ao (ds:=[brd bd, .int (w:Int)]) rfl rfl).trans ef)).trans rfl) ?_
 refine ah (cJ (gL ((aL (ln _ rfl) ((ao (ds:=[brd bd, .int (w:Int)]) rfl rfl).trans (c7 hg hs hw))).trans ((va _ _).trans (by rw[beq_self_eq_true];rfl)))) rfl) ?_
 refine ah (cJ (gL ((aL (nU hg hs hw rfl) ((cK (bg (nU hg hs hw rfl) rfl)).trans (vE pQ Le))).trans ((yD _ _).trans (by rw[zM wz,decide_eq_true rfl];rfl)))) rfl) ?_
 refine ah (ρ':=h9 s (brd bd) (fz (.int (w:Int))) (fz S) (fz (l9 bd.length W f)) (fz (cL [])) none none none none none x11) ((aT (d:=cL []) rfl).trans rfl) ?_
 have JT:((au bd W w).zipIdx.map fun q:List Cell×Nat=>(q.2,q.1)).map (·.2)=au bd W w:=by
  rw[List.map_map]
  exact List.zipIdx_map_fst ..
 have el:=nN (s:=s) (x9:=none) (x10:=none) (x11:=x11) hg hs hw hf (S:=S) ((au bd W w).zipIdx.map fun q:List Cell×Nat=>(q.2,q.1)) [] (fun q hq=>by
  obtain⟨p,hp,rfl⟩:=List.mem_map.mp hq
  exact List.mem_zipIdx_iff_getElem?.mp hp) (by rw[JT];have:=o5 (bd:=bd) (W:=W) hw;rw[List.length_nil];omega)
 rw[JT,List.nil_append] at el
 refine ah (ρ':=h9 s (brd bd) (fz (.int (w:Int))) (fz S) (fz (l9 bd.length W f)) (fz (cL (au bd W w).flatten)) none none none none none x11) (eA (ds:=((au bd W w).zipIdx.map fun q:List Cell×Nat=>(q.2,q.1)).map Eu) ?_ el) ?_
 ·rw[←om]
  rfl
 refine ah (cJ (gL ((aL ((cK (xs:=[cL (au bd W w).flatten]) rfl).trans (vE (mS hw) (by have:=o5 (bd:=bd) (W:=W) hw;omega))) ((ao (ds:=[brd bd]) rfl rfl).trans (nJ hg))).trans ((yD _ _).trans (by rw[xi hg hw,decide_eq_true rfl];rfl)))) rfl) ?_
 refine ah (ρ':=h9 s (brd bd) (fz (.int (w:Int))) (fz S) (fz (l9 bd.length W f)) (fz (cL (au bd W w).flatten)) none none none (fz (mW 0)) none x11) ((aT (d:=mW 0) rfl).trans rfl) ?_
 refine ah (ρ':=h9 s (brd bd) (fz (.int (w:Int))) (fz S) (fz (l9 bd.length W f)) (fz (cL (au bd W w).flatten)) none none none (fz (mW (au bd W w).length)) none x11) (eA (ds:=(aB bd.length W).map cD) (AG ((ao (ds:=[brd bd]) rfl rfl).trans (nJ hg))) (oy hw hs hf (aB bd.length W) [] rfl)) ?_
 refine ah (cJ (gL ((aL (x:=mW (au bd W w).length) (y:=mW (au bd W w).length) rfl ?_).trans ((xS (uP Ai) (by decide) _ _).trans (by rw[decide_eq_true rfl];rfl)))) rfl) ?_
 ·show (dA a_ (aC (dV 3) aN) _>>=oj)=_
  rw[ln _ rfl,aq]
  show (if 0≤((au bd W w).length:Int)∧((au bd W w).length:Int)≤4096 then M.ret (D.lst ((List.range ((au bd W w).length:Int).toNat).map fun(i:Nat)=>D.int (i:Int))) else M.stuck)=_
  rw[if_pos ⟨by omega,by omega⟩,Int.toNat_natCast]
  unfold mW
  rw[List.map_map]
  rfl
 have tF:z_ ⟨#[101]⟩=true:=by decide+kernel
 have JJ:z_ ⟨#[100]⟩=true:=by decide+kernel
 have h1:=hg.r1
 have Mc:=hg.w1
 have hL:Brd (bd++[bX ⟨#[101]⟩ W]) W:=⟨by rw[c8];omega,by rw[c8];omega,hg.w1,hg.w8,fun r hr=>by
  rcases List.mem_append.mp hr with q | q
  ·exact hg.rows r q
  ·rw[List.mem_singleton.mp q]
   exact vA tF W⟩
 have Lp:(bd++[bX ⟨#[101]⟩ W]).length*W<64:=by
  rw[c8]
  have:=Nat.mul_le_mul (show bd.length+1≤6 by omega) w5
  omega
 have hD:Brd (List.replicate bd.length (bX ⟨#[100]⟩ W)) W:=⟨by rw[List.length_replicate];exact h1,by rw[List.length_replicate];omega,hg.w1,hg.w8,fun r hr=>by
  rw[(List.mem_replicate.mp hr).2]
  exact vA JJ W⟩
 have Lo:(List.replicate bd.length (bX ⟨#[100]⟩ W)).length*W<64:=by rw[List.length_replicate];exact hs
 have ct:j6 (brd bd) (.tup [.str (bX ⟨#[101]⟩ W)])=M.ret (brd (bd++[bX ⟨#[101]⟩ W])):=by
  show (if (bd.map D.str).length+1≤lim then M.ret (D.tup (bd.map D.str++[.str (bX ⟨#[101]⟩ W)])) else M.stuck)=_
  rw[if_pos (by rw[List.length_map,cW];omega)]
  simp[brd]
 refine ah (ρ':=h9 s (brd bd) (fz (.int (w:Int))) (fz S) (fz (l9 bd.length W f)) (fz (cL (au bd W w).flatten)) none none none (fz (mW (au bd W w).length)) (fz (brd (bd++[bX ⟨#[101]⟩ W]))) x11) ((aT ((aL (x:=brd bd) (y:= .tup [.str (bX ⟨#[101]⟩ W)]) rfl ((cK (xs:=[.str (bX ⟨#[101]⟩ W)]) (bg ((aL (x:= .str ⟨#[101]⟩) rfl (hg.len0 (i:=1) rfl)).trans (si rfl (by omega))) rfl)).trans rfl)).trans ct)).trans rfl) ?_
 refine ah (cJ (gL ((aL (y:= .int (((au bd W w).length+1:Nat):Int)) ((ao (ds:=[brd (bd++[bX ⟨#[101]⟩ W]), .int (w:Int)]) rfl rfl).trans (c7 hL Lp hw)) ((aL (ln _ rfl) (y:= .int 1) rfl).trans rfl)).trans ((va _ _).trans (by rw[wu hw hg.w1 dB,beq_self_eq_true];rfl)))) rfl) ?_
 exact cJ (gL ((aL (y:= .int 1) ((ao (ds:=[brd (List.replicate bd.length (bX ⟨#[100]⟩ W)), .int (w:Int)]) (bg ((aL (x:= .tup [.str (bX ⟨#[100]⟩ W)]) (y:= .int (bd.length:Int)) ((cK (xs:=[.str (bX ⟨#[100]⟩ W)]) (bg ((aL (x:= .str ⟨#[100]⟩) rfl (hg.len0 (i:=1) rfl)).trans (si rfl (by omega))) rfl)).trans rfl) (AL (i:=1) rfl)).trans (zA h1 (by omega))) rfl) rfl).trans (c7 hD Lo hw)) rfl).trans ((va _ 1).trans (by rw[zI hw h1 hg.w1];rfl)))) rfl
def GA:DS:=(cb [7,11] (az (bO 11 (d2 cx (aX 0 (ck (ak 2 br (aC (dV 1) (aC (dC (.int 8)) aN)))) (c0 (d2 (m7 false) (d2 cx (dV 8) (dC (.int 0))) (dV 0))) (dV 0)) (dC (.int 0)))) (eB (c0 (d2 g7 (aX 0 (ck (dV 7)) (c0 (d2 (m7 true) (dV 0) (dV 12))) (dV 0)) (dA cO aN))) (aW (dC (.bl false))) bT)))
theorem zZ(hg:Brd bd W)(hs:bd.length*W<64){m:Cell}(hm:m∈aG bd W 4 (aB bd.length W)):
 GA (h9 s (brd bd) none none none none none (fz (cL (ax bd W 4 m))) none none none none)=M.ret (.nx (h9 s (brd bd) none none none none none none none none none none)):=by
 have h8:Ways 8:= .inr rfl
 have pH:=bK hm
 obtain⟨r,hr⟩:=iy (.inl rfl) hm
 have hP:=bo (.inl rfl) pH
 have hQ:=bo h8 pH
 have e0:cx (cL (ax bd W 4 m)) (.int 0)=M.ret (cD m):=by
  rw[hr]
  exact tJ (l:=m::r) (i:=0) rfl
 refine(bt (ρ':=h9 s (brd bd) none none none none none (fz (cL (ax bd W 4 m))) none none none (fz (cL (ax bd W 8 m)))) (ah (ρ':=h9 s (brd bd) none none none none none (fz (cL (ax bd W 4 m))) none none none (fz (cL (ax bd W 8 m)))) ((aT ((aL (x:= .lst [cL (ax bd W 8 m)]) (y:= .int 0) (bV (ds:=(au bd W 8).map cL) ?_ ?_ (by rw[cW];exact Nat.le_of_ble_eq_true rfl)) rfl).trans rfl)).trans rfl) (cJ (oE (xs:=ax bd W 4 m) (FG (i:=7) rfl) fun x hx=>?_) rfl))).trans rfl
 ·show (ak 2 br (aC (dV 1) (aC (dC (.int 8)) aN)) _>>=lstM)=_
  rw[(ao (ds:=[brd bd, .int ((8:Nat):Int)]) rfl rfl:ak 2 br (aC (dV 1) (aC (dC (.int 8)) aN)) _=_),gq hg hs h8]
  rfl
 ·have:=gP (f:=eJ 0 (c0 (d2 (m7 false) (d2 cx (dV 8) (dC (.int 0))) (dV 0))) (dV 0) (h9 s (brd bd) none none none none none (fz (cL (ax bd W 4 m))) none none none none)) cL (fun P=>decide (m∈P)) (au bd W 8) fun P GL=>by
   rw[s9,gL (b:=decide (m∈P)) ((aL (x:=cD m) (y:=cL P) ((aL (x:=cL (ax bd W 4 m)) (y:= .int 0) rfl rfl).trans e0) rfl).trans uZ),aq]
   cases decide (m∈P)<;>rfl
  rw[this,ub hg h8 pH]
  rfl
 ·have tF:x∈ax bd W 8 m:=(hQ.mem x).mpr (ET ((hP.mem x).mp hx))
  exact gL ((aL (x:=cD x) (y:=cL (ax bd W 8 m)) rfl rfl).trans (uZ.trans (by rw[if_pos rfl,decide_eq_true tF];rfl)))
theorem Dr(hg:Brd bd W)(hE:∀r∈bd,EJ r){x:Cell}(hx:On bd.length W x):lt bd x≠101:=by
 have hr:=getD_mem hx.1
 refine hE _ hr _ ?_
 have hl:(bd.getD x.1 ⟨#[]⟩).cps.toList.length=W:=by rw[Array.length_toList];exact(hg.rows _ hr).len
 show (bd.getD x.1 ⟨#[]⟩).cps.toList.getD x.2 0∈_
 generalize bd.getD x.1 ⟨#[]⟩=q at*
 rw[List.getD_eq_getElem?_getD,List.getElem?_eq_getElem (by rw[hl];exact hx.2)]
 exact List.getElem_mem _
theorem yy(ns:List Int)(hl:ns.length≤63):gS [.scr ns]=M.ret (.bl true):=by
 obtain⟨bd,W,hG,hE,_,_,eb⟩:=sV ns hl 0 5 (by decide) (by decide)
 have hg:=hG.brd
 have hs:bd.length*W<64:=by
  have:=Nat.mul_le_mul hG.r5 hG.w5
  omega
 have dB:∀x,On bd.length W x→lt bd x≠101:=fun x hx=>Dr hg hE hx
 refine a9 ?_
 refine ah (ρ':=h9 (.scr ns) (brd bd) none none none none none none none none none none) ((aT ((ao (ds:=[.scr ns, .int 0, .int 5]) rfl rfl).trans eb)).trans rfl) ?_
 refine ah (ρ':=h9 (.scr ns) (brd bd) none none none none none none none none none none) (d3 (eA (ds:=[4,8].map fun(k:Nat)=>D.int (k:Int)) rfl (gT (body:=EN) (fun (k:Nat)=>D.int (k:Int)) _ [4,8] fun k hk=>⟨_,rfl,xy hg hG.r5 hG.w5 ?_ dB⟩))) ?_
 ·rcases List.mem_cons.mp hk with q | q
  ·exact .inl q
  ·exact .inr (List.mem_singleton.mp q)
 refine ah (ρ':=h9 (.scr ns) (brd bd) none none none none none none none none none none) (d3 (eA (ds:=(aG bd W 4 (aB bd.length W)).map fun m=>cL (ax bd W 4 m)) ?_ (gT (body:=GA) (fun m=>cL (ax bd W 4 m)) _ (aG bd W 4 (aB bd.length W)) fun m hm=>⟨_,rfl,zZ hg hs hm⟩))) ?_
 ·show (ak 2 br (aC (dV 1) (aC (dC (.int 4)) aN)) _>>=lstM)=_
  rw[(ao (ds:=[brd bd, .int ((4:Nat):Int)]) rfl rfl:ak 2 br (aC (dV 1) (aC (dC (.int 4)) aN)) _=_),gq hg hs (.inl rfl)]
  unfold au
  rw[List.map_map]
  rfl
 refine aK ((aL ((ao (ds:=[brd bd, .int ((8:Nat):Int)]) rfl rfl).trans (c7 hg hs (.inr rfl))) ((ao (ds:=[brd bd, .int ((4:Nat):Int)]) rfl rfl).trans (c7 hg hs (.inl rfl)))).trans ?_)
 show M.ret (D.bl (decide (((au bd W 8).length:Int)≤((au bd W 4).length:Int))))=_
 rw[decide_eq_true (by have:=Hk (bd:=bd) (W:=W);omega)]
end
def DF(K:W.Frag)(x:Str)(s:Stmt):Prop:=∃(f:Addr) (oc:Value) (od an:Option Addr) (sl:Array (Option Value)) (kV dc pm cd ct:Value),PySem.W.nsIn K mainGlobals x=some (some (.ref f))∧K.lookup f=some ⟨oc,od, .func (PySem.W.fnOf x x (dz s) (bI s) (ag s) .none kV dc pm an cd ct),sl⟩∧PySem.W.codeIn K cd x=true∧PySem.W.keepIn K (.ref f)=true
theorem DF.mk{K:W.Frag}{x:Str}{s:Stmt}{f:Addr}{oc:Value}{od an:Option Addr}{sl:Array (Option Value)}{kV dc pm cd ct:Value}(a:PySem.W.nsIn K mainGlobals x=some (some (.ref f)))(l:K.lookup f=some ⟨oc,od, .func (PySem.W.fnOf x x (dz s) (bI s) (ag s) .none kV dc pm an cd ct),sl⟩)(c:PySem.W.codeIn K cd x=true)(k:PySem.W.keepIn K (.ref f)=true):DF K x s:=⟨f,oc,od,an,sl,kV,dc,pm,cd,ct,a,l,c,k⟩
theorem DF.at{K:W.Frag}{x:Str}{s:Stmt}{h:Heap}{mg:Str→Option Value}(X:K.In h)(G:h.Ns mainGlobals mg)(d:DF K x s):∃f,bD K mg x s f:=by
 obtain⟨f,oc,od,an,sl,kV,dc,pm,cd,ct,a,l,c,k⟩:=d
 exact⟨f,PySem.W.mg_of X G a,_,xZ (st:=s) l c k⟩
theorem all_mk{P:Program}{w:World}{K:W.Frag}{h:Heap}{mg:Str→Option Value}{fa:Addr}(X:K.In h)(G:h.Ns mainGlobals mg)(KQ:mg "law"=some (.ref fa))
 {iu:Addr}{tZ k8:Option Addr}{uu:Array (Option Value)}{tY lI lp my ip lj:Value}
 {w_:Tok}
 {sD:Tok}
 {mO:Tok}
 (d_is_whole:DF K "is_whole" iE)
 (d_is_letter:DF K "is_letter" gy)
 (d_cells_of_row:DF K "cells_of_row" df)
 (d_letter_of:DF K "letter_of" gB)
 (d_are_next:DF K "are_next" iC)
 (d_keyed:DF K "keyed" qk)
 (d_numbers_of:DF K "numbers_of" fQ)
 (d_law_cell:DF K "_law_cell" iF)
 (d_is_row:DF K "is_row" jf)
 (d_is_cell:DF K "is_cell" jT)
 (d_need_ways:DF K "need_ways" gE)
 (d_all_cells:DF K "all_cells" gx)
 (d_next_cells:DF K "next_cells" fO)
 (d_law_drawn:DF K "_law_drawn" gz)
 (d_is_board:DF K "is_board" eC)
 (d_need_cell:DF K "need_cell" gD)
 (d_like_cells:DF K "like_cells" d4)
 (d_law_board:DF K "_law_board" eS)
 (d_need_board:DF K "need_board" fN)
 (d_steps_back:DF K "steps_back" fR)
 (d_cells:DF K "cells" qj)
 (d_letter_at:DF K "letter_at" gA)
 (d_need_two_cells:DF K "need_two_cells" dw)
 (d_all_patches:DF K "all_patches" e8)
 (d_patch_of:DF K "patch_of" iG)
 (d_patches:DF K "patches" jU)
 (d_how_many:DF K "how_many" iD)
 (d_numbered:DF K "numbered" fP)
 (d_are_one:DF K "are_one" jS)
 (a_law_k12:PySem.W.nsIn K mainGlobals "law"=some (some (.ref iu)))(l_law_k12:K.lookup iu=some ⟨tY,tZ, .func (PySem.W.fnOf "law" "law" (dz aE) (bI aE) (ag aE) .none lI lp my k8 ip lj),uu⟩)(c_law_k12:PySem.W.codeIn K ip "law"=true)(k_law_k12:PySem.W.keepIn K (.ref iu)=true)
 (z_len:PySem.W.nsIn K mainGlobals "len"=some none)
 (z_isinstance:PySem.W.nsIn K mainGlobals "isinstance"=some none)
 (z_all:PySem.W.nsIn K mainGlobals "all"=some none)
 (z_abs:PySem.W.nsIn K mainGlobals "abs"=some none)
 (z_max:PySem.W.nsIn K mainGlobals "max"=some none)
 (z_min:PySem.W.nsIn K mainGlobals "min"=some none)
 (z_range:PySem.W.nsIn K mainGlobals "range"=some none)
 (z_str:PySem.W.nsIn K mainGlobals "str"=some none)
 (z_int:PySem.W.nsIn K mainGlobals "int"=some none)
 (z_bool:PySem.W.nsIn K mainGlobals "bool"=some none)
 (z_tuple:PySem.W.nsIn K mainGlobals "tuple"=some none)
 (z_list:PySem.W.nsIn K mainGlobals "list"=some none)
 (z_set:PySem.W.nsIn K mainGlobals "set"=some none)
 (z_sorted:PySem.W.nsIn K mainGlobals "sorted"=some none)
 (z_enumerate:PySem.W.nsIn K mainGlobals "enumerate"=some none)
 (y_LETTERS:PySem.W.nsIn K mainGlobals "LETTERS"=some (some (.str "abcdef" w_)))
 (y_MOST_ROWS:PySem.W.nsIn K mainGlobals "MOST_ROWS"=some (some (.int 8 sD)))
 (y_MOST_COLUMNS:PySem.W.nsIn K mainGlobals "MOST_COLUMNS"=some (some (.int 8 mO))):
 ∃(cv:Nat→Value) (fd:FuncData),(∀(s:Shared) (u:Value),BindsTo s fd ⟨[u],[]⟩ [("_law_script",u)])∧∀base:Heap,K.In base→base.Ns mainGlobals mg→FnOk P w K mg base (nv P w cv) 7 fa fd ["_law_script"] (EB K cv 1 gS):=by
 have ea:=KQ.symm.trans (PySem.W.mg_of X G a_law_k12)
 cases ea
 refine⟨fun _=> .none,PySem.W.fnOf "law" "law" (dz aE) (bI aE) (ag aE) .none lI lp my k8 ip lj,fun s v=> .of_eq rfl,fun base KB GB=>?_⟩
 have B:Bl K mg base (fun _=> .none) (fun _=>mainGlobals) mainGlobals:=⟨PySem.W.mg_none_of X G z_len,PySem.W.mg_none_of X G z_isinstance,PySem.W.mg_none_of X G z_all,PySem.W.mg_none_of X G z_abs,PySem.W.mg_none_of X G z_max,PySem.W.mg_none_of X G z_min,PySem.W.mg_none_of X G z_range,PySem.W.mg_none_of X G z_str,PySem.W.mg_none_of X G z_int,PySem.W.mg_none_of X G z_bool,PySem.W.mg_none_of X G z_tuple,PySem.W.mg_none_of X G z_list,PySem.W.mg_none_of X G z_set,PySem.W.mg_none_of X G z_sorted,PySem.W.mg_none_of X G z_enumerate,⟨_,PySem.W.mg_of X G y_LETTERS⟩,⟨_,PySem.W.mg_of X G y_MOST_ROWS⟩,⟨_,PySem.W.mg_of X G y_MOST_COLUMNS⟩⟩
 have ma:=(DF.at X G d_is_whole).elim fun _ t=>rR (P:=P) (w:=w) B t
 have rJ:=(DF.at X G d_is_letter).elim fun _ t=>pW (P:=P) (w:=w) B t
 have gm:=(DF.at X G d_cells_of_row).elim fun _ t=>kM (P:=P) (w:=w) B t
 have km:=(DF.at X G d_letter_of).elim fun _ t=>p0 (P:=P) (w:=w) B t
 have tR:=(DF.at X G d_are_next).elim fun _ t=>rO (P:=P) (w:=w) B t
 have AS:=(DF.at X G d_keyed).elim fun _ t=>yO (P:=P) (w:=w) B t
 have pU:=(DF.at X G d_numbers_of).elim fun _ t=>nh (P:=P) (w:=w) B t
 have tV:=(DF.at X G d_law_cell).elim fun _ t=>rS (P:=P) (w:=w) B t
 have yM:=(DF.at X G d_is_row).elim fun _ t=>wG (P:=P) (w:=w) B rJ t
 have wC:=(DF.at X G d_is_cell).elim fun _ t=>t6 (P:=P) (w:=w) B ma t
 have dJ:=(DF.at X G d_need_ways).elim fun _ t=>p4 (P:=P) (w:=w) B ma t
 have kl:=(DF.at X G d_all_cells).elim fun _ t=>pV (P:=P) (w:=w) B gm t
 have pT:=(DF.at X G d_next_cells).elim fun _ t=>ng (P:=P) (w:=w) B tR t
 have rL:=(DF.at X G d_law_drawn).elim fun _ t=>pY (P:=P) (w:=w) B tV t
 have tU:=(DF.at X G d_is_board).elim fun _ t=>rQ (P:=P) (w:=w) B yM t
 have gn:=(DF.at X G d_need_cell).elim fun _ t=>p3 (P:=P) (w:=w) B wC t
 have pS:=(DF.at X G d_like_cells).elim fun _ t=>m9 (P:=P) (w:=w) B km pT t
 have rK:=(DF.at X G d_law_board).elim fun _ t=>pX (P:=P) (w:=w) B rL t
 have b9:=(DF.at X G d_need_board).elim fun _ t=>m_ (P:=P) (w:=w) B tU t
 have fL:=(DF.at X G d_steps_back).elim fun _ t=>ni (P:=P) (w:=w) B pS t
 have AR:=(DF.at X G d_cells).elim fun _ t=>yN (P:=P) (w:=w) B b9 kl t
 have rM:=(DF.at X G d_letter_at).elim fun _ t=>pZ (P:=P) (w:=w) B b9 gn km t
 have jD:=(DF.at X G d_need_two_cells).elim fun _ t=>i3 (P:=P) (w:=w) B b9 dJ gn t
 have eX:=(DF.at X G d_all_patches).elim fun _ t=>md (P:=P) (w:=w) B kl fL AS t
 have tX:=(DF.at X G d_patch_of).elim fun _ t=>rU (P:=P) (w:=w) B b9 gn dJ fL t
 have wD:=(DF.at X G d_patches).elim fun _ t=>t7 (P:=P) (w:=w) B b9 dJ eX t
 have tT:=(DF.at X G d_how_many).elim fun _ t=>rP (P:=P) (w:=w) B b9 dJ eX t
 have tW:=(DF.at X G d_numbered).elim fun _ t=>rT (P:=P) (w:=w) B b9 dJ pU eX gm t
 have wB:=(DF.at X G d_are_one).elim fun _ t=>t5 (P:=P) (w:=w) B jD fL t
 exact rN B rK wD tW AR tT tX wB rM (xZ (st:=aE) l_law_k12 c_law_k12 k_law_k12)
end K1
open PySem PySem.W PyProof.Rows
set_option maxHeartbeats 0 in
theorem PySem.Challenge.cw_cellpatches_k12_whole_numbered_holds : PySem.Challenge.rw_cellpatches_k12_whole_numbered.Holds := by
 w_on;o_law
 refine holds_open (q:=K1.sG) (loose:=[]) (Xt:=fun s=>xlAt K1.sG [] s&&recOk (RowW.records (OpenRow.toRowW _)) s) (XP:=XL K1.sG []) (Yf:=Hook.obs (kHook K1.lB K1.lA (fun _=>by kernel_rfl))) (Ya:=Hook.val (kHook K1.lB K1.lA (fun _=>by kernel_rfl))) (YP:=Hook.says (kHook K1.lB K1.lA (fun _=>by kernel_rfl))) (N:=3694) ?hl (Hook.of (kHook K1.lB K1.lA (fun _=>by kernel_rfl))) (Hook.keeps (kHook K1.lB K1.lA (fun _=>by kernel_rfl))) (fun s e=>xl_of s (Bool.and_eq_true_iff.mp e).1) XL.keeps (by rfl) (by rfl) (by rfl) (fun s e=>recFacts_of (Bool.and_eq_true_iff.mp e).2) (by rfl) (by first | assumption | decide+kernel) (by decide+kernel) ⟨rfl,rfl,rfl,rfl,rfl,by decide+kernel⟩ ?hw ?hc
 case hl=>exact K1.Fj
 (case hw=>w_witness2)
 k_fill
 refine L3.Gz (l:=PySem.Challenge.rw_cellpatches_k12_whole_numbered) (k:=7) (n:=63) (x:="_law_script") (g:=K1.gS) rfl (by decide) rfl ⟨rfl,by decide,by decide⟩ (fun w h Y=>PySem.W.kIn_of Y) K1.yy ?F
 case F=>
  intro w mg fa h KX G CV
  refine' K1.all_mk KX G CV ?d_is_whole ?d_is_letter ?d_cells_of_row ?d_letter_of ?d_are_next ?d_keyed ?d_numbers_of ?d_law_cell ?d_is_row ?d_is_cell ?d_need_ways ?d_all_cells ?d_next_cells ?d_law_drawn ?d_is_board ?d_need_cell ?d_like_cells ?d_law_board ?d_need_board ?d_steps_back ?d_cells ?d_letter_at ?d_need_two_cells ?d_all_patches ?d_patch_of ?d_patches ?d_how_many ?d_numbered ?d_are_one ?a_law_k12 ?l_law_k12 ?c_law_k12 ?k_law_k12 ?z_len ?z_isinstance ?z_all ?z_abs ?z_max ?z_min ?z_range ?z_str ?z_int ?z_bool ?z_tuple ?z_list ?z_set ?z_sorted ?z_enumerate ?y_LETTERS ?y_MOST_ROWS ?y_MOST_COLUMNS
  (case d_is_whole=>(refine' K1.DF.mk ?a ?l ?c ?k;(case a=>k_is);(case l=>k_is);(case c=>k_is);(case k=>k_is)))
  (case d_is_letter=>(refine' K1.DF.mk ?a ?l ?c ?k;(case a=>k_is);(case l=>k_is);(case c=>k_is);(case k=>k_is)))
  (case d_cells_of_row=>(refine' K1.DF.mk ?a ?l ?c ?k;(case a=>k_is);(case l=>k_is);(case c=>k_is);(case k=>k_is)))
  (case d_letter_of=>(refine' K1.DF.mk ?a ?l ?c ?k;(case a=>k_is);(case l=>k_is);(case c=>k_is);(case k=>k_is)))
  (case d_are_next=>(refine' K1.DF.mk ?a ?l ?c ?k;(case a=>k_is);(case l=>k_is);(case c=>k_is);(case k=>k_is)))
  (case d_keyed=>(refine' K1.DF.mk ?a ?l ?c ?k;(case a=>k_is);(case l=>k_is);(case c=>k_is);(case k=>k_is)))
  (case d_numbers_of=>(refine' K1.DF.mk ?a ?l ?c ?k;(case a=>k_is);(case l=>k_is);(case c=>k_is);(case k=>k_is)))
  (case d_law_cell=>(refine' K1.DF.mk ?a ?l ?c ?k;(case a=>k_is);(case l=>k_is);(case c=>k_is);(case k=>k_is)))
  (case d_is_row=>(refine' K1.DF.mk ?a ?l ?c ?k;(case a=>k_is);(case l=>k_is);(case c=>k_is);(case k=>k_is)))
  (case d_is_cell=>(refine' K1.DF.mk ?a ?l ?c ?k;(case a=>k_is);(case l=>k_is);(case c=>k_is);(case k=>k_is)))
  (case d_need_ways=>(refine' K1.DF.mk ?a ?l ?c ?k;(case a=>k_is);(case l=>k_is);(case c=>k_is);(case k=>k_is)))
  (case d_all_cells=>(refine' K1.DF.mk ?a ?l ?c ?k;(case a=>k_is);(case l=>k_is);(case c=>k_is);(case k=>k_is)))
  (case d_next_cells=>(refine' K1.DF.mk ?a ?l ?c ?k;(case a=>k_is);(case l=>k_is);(case c=>k_is);(case k=>k_is)))
  (case d_law_drawn=>(refine' K1.DF.mk ?a ?l ?c ?k;(case a=>k_is);(case l=>k_is);(case c=>k_is);(case k=>k_is)))
  (case d_is_board=>(refine' K1.DF.mk ?a ?l ?c ?k;(case a=>k_is);(case l=>k_is);(case c=>k_is);(case k=>k_is)))
  (case d_need_cell=>(refine' K1.DF.mk ?a ?l ?c ?k;(case a=>k_is);(case l=>k_is);(case c=>k_is);(case k=>k_is)))
  (case d_like_cells=>(refine' K1.DF.mk ?a ?l ?c ?k;(case a=>k_is);(case l=>k_is);(case c=>k_is);(case k=>k_is)))
  (case d_law_board=>(refine' K1.DF.mk ?a ?l ?c ?k;(case a=>k_is);(case l=>k_is);(case c=>k_is);(case k=>k_is)))
  (case d_need_board=>(refine' K1.DF.mk ?a ?l ?c ?k;(case a=>k_is);(case l=>k_is);(case c=>k_is);(case k=>k_is)))
  (case d_steps_back=>(refine' K1.DF.mk ?a ?l ?c ?k;(case a=>k_is);(case l=>k_is);(case c=>k_is);(case k=>k_is)))
  (case d_cells=>(refine' K1.DF.mk ?a ?l ?c ?k;(case a=>k_is);(case l=>k_is);(case c=>k_is);(case k=>k_is)))
  (case d_letter_at=>(refine' K1.DF.mk ?a ?l ?c ?k;(case a=>k_is);(case l=>k_is);(case c=>k_is);(case k=>k_is)))
  (case d_need_two_cells=>(refine' K1.DF.mk ?a ?l ?c ?k;(case a=>k_is);(case l=>k_is);(case c=>k_is);(case k=>k_is)))
  (case d_all_patches=>(refine' K1.DF.mk ?a ?l ?c ?k;(case a=>k_is);(case l=>k_is);(case c=>k_is);(case k=>k_is)))
  (case d_patch_of=>(refine' K1.DF.mk ?a ?l ?c ?k;(case a=>k_is);(case l=>k_is);(case c=>k_is);(case k=>k_is)))
  (case d_patches=>(refine' K1.DF.mk ?a ?l ?c ?k;(case a=>k_is);(case l=>k_is);(case c=>k_is);(case k=>k_is)))
  (case d_how_many=>(refine' K1.DF.mk ?a ?l ?c ?k;(case a=>k_is);(case l=>k_is);(case c=>k_is);(case k=>k_is)))
  (case d_numbered=>(refine' K1.DF.mk ?a ?l ?c ?k;(case a=>k_is);(case l=>k_is);(case c=>k_is);(case k=>k_is)))
  (case d_are_one=>(refine' K1.DF.mk ?a ?l ?c ?k;(case a=>k_is);(case l=>k_is);(case c=>k_is);(case k=>k_is)))
  (case a_law_k12=>k_is)
  (case l_law_k12=>k_is)
  (case c_law_k12=>k_is)
  (case k_law_k12=>k_is)
  (case z_len=>k_is)
  (case z_isinstance=>k_is)
  (case z_all=>k_is)
  (case z_abs=>k_is)
  (case z_max=>k_is)
  (case z_min=>k_is)
  (case z_range=>k_is)
  (case z_str=>k_is)
  (case z_int=>k_is)
  (case z_bool=>k_is)
  (case z_tuple=>k_is)
  (case z_list=>k_is)
  (case z_set=>k_is)
  (case z_sorted=>k_is)
  (case z_enumerate=>k_is)
  (case y_LETTERS=>k_is)
  (case y_MOST_ROWS=>k_is)
  (case y_MOST_COLUMNS=>k_is)
