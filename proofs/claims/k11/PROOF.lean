import PyProof.Rows.All
import Wide.All
import OpenK.AllK
import Wide.FinOn
import Lean
import PyProof.EqAt
import PyProof.EqKinds
import PyProof.TupleCall
import KE.KTryMore
import KE.KRevIter
import KE.KSortTup
import KE.KDictSum
import KE.KRevSl
import PyProof.Rows.TupDisplay
import PyProof.EnumFor
import PyProof.EnumMake
import PyProof.EnumStmt
import PyProof.DictUpdate
import PyProof.AttrMissSeq
import KE.KDictOf
import PyProof.ListStr
import PyProof.SetScanFacts
import PyProof.Rows.SetFrom
import PyProof.TupleKey
import KE.LcSums
import PyProof.ListRange
import PyProof.SeqI3
import KE.KItemsList
import PyProof.ZipIter
import PyProof.Draws
import PySem.Challenge.RW_cellpatches_k11_whole_patches
set_option Elab.async false
set_option linter.all false
set_option maxRecDepth 100000
namespace L2
open PySem
def d7(s:Stmt):Arguments:=match s with
 | .FunctionDef _ a _ _ _ _ _ _ _ _=>a
 |_=>{posonlyargs:=[],args:=[],vararg:=none,kwonlyargs:=[],kw_defaults:=[],kwarg:=none,defaults:=[]}
def bO(s:Stmt):List Stmt:=match s with
 | .FunctionDef _ _ b _ _ _ _ _ _ _=>b
 |_=>[]
def af(s:Stmt):Scope:=match s with
 | .FunctionDef _ _ _ _ _ _ sc _ _ _=>sc
 |_=>{kind:= .function,names:=[],isGenerator:=false,isCoroutine:=false}
end L2
namespace K1
open PySem PySem.Spec
def top(i:Nat):Stmt:=PySem.Challenge.pw_cellpatches_k11_whole_patches.main.body.getD i (.Pass ⟨0,0,0,0⟩)
abbrev hS(s:String)(t:Tok):Value:= .str (Str.ofString s) t
abbrev hE(P:Params)(s:String)(t:Tok)(v:Value):DictEntry:={hash:=PyData.keyHash P (Str.ofString s),key:=hS s t,val:=v}
abbrev hT(xs:Array Value):Obj:={cls:= .type "tuple",data:=Data.seq xs}
abbrev hF(s:String)(t:Stmt)(m:Value)(c:Addr):Obj:={cls:= .type "function",data:=Data.func {name:=Str.ofString s,qualname:=Str.ofString s,params:=L2.d7 t,body:=FuncBody.stmts (L2.bO t),scope:=L2.af t,globals:=3,closure:=[],defaults:= .none,kwdefaults:= .none,pyModule:=m,code:= .ref c} }
def nJ:Params→W.Frag:=fun P=>(nat_lit 2,{cls:= .none,data:=Data.dict #[]})::
 (nat_lit 3,{cls:= .type "dict",data:=Data.dict #[hE P "__name__" 165 (hS "law_cellpatches_k11_whole_patches" 498),hE P "__doc__" 166 .none,hE P "__package__" 167 .none,hE P "__loader__" 168 (.builtin "__main__.__loader__#opaque"),hE P "__spec__" 169 .none,hE P "__annotations__" 170 (.ref 6),hE P "__builtins__" 171 (.ref 4),hE P "__file__" 173 (hS "/claim/cut.py" 172),hE P "__cached__" 174 .none,hE P "PatchError" 206 (.ref 24),hE P "NoBoard" 222 (.ref 37),hE P "NoWays" 238 (.ref 49),hE P "NoCell" 254 (.ref 61),hE P "LETTERS" 258 (hS "abcdef" 257),hE P "MOST_ROWS" 260 (.int 8 259),hE P "MOST_COLUMNS" 262 (.int 8 261),hE P "is_whole" 269 (.ref 70),hE P "is_letter" 276 (.ref 77),hE P "is_row" 282 (.ref 82),hE P "is_board" 288 (.ref 87),hE P "is_cell" 296 (.ref 94),hE P "need_board" 303 (.ref 101),hE P "need_cell" 311 (.ref 108),hE P "need_ways" 318 (.ref 115),hE P "cells_of_row" 324 (.ref 120),hE P "all_cells" 333 (.ref 127),hE P "letter_of" 341 (.ref 134),hE P "are_next" 352 (.ref 141),hE P "next_cells" 364 (.ref 148),hE P "keyed" 373 (.ref 155),hE P "cells" 380 (.ref 162),hE P "letter_at" 388 (.ref 169),hE P "beside" 397 (.ref 176),hE P "column_from_below" 403 (.ref 181),hE P "turned" 409 (.ref 186),hE P "mirrored" 415 (.ref 191),hE P "letters" 421 (.ref 196),hE P "like_cells" 429 (.ref 201),hE P "steps_back" 443 (.ref 208),hE P "all_patches" 455 (.ref 215),hE P "numbers_of" 466 (.ref 222),hE P "patch_of" 475 (.ref 229),hE P "patches" 483 (.ref 236),hE P "how_many" 491 (.ref 243),hE P "numbered" 497 (.ref 248),hE P "_law_cell" 507 (.ref 255),hE P "_law_drawn" 517 (.ref 262),hE P "_law_board" 523 (.ref 267),hE P "_law_cells" 529 (.ref 272),hE P "_law_beside" 544 (.ref 279),hE P "_law_all" 553 (.ref 286),hE P "law" 559 (.ref 291)] 52})::
 (nat_lit 15,hT #[.type "ValueError"])::
 (nat_lit 22,hT #[])::
 (nat_lit 23,{cls:= .type "dict",data:=Data.dict #[hE P "__module__" 196 (hS "cellpatches.errors" 187),hE P "__firstlineno__" 200 (.int 2 199),hE P "__static_attributes__" 201 (.ref 22),hE P "__weakref__" 203 (.ref 25),hE P "__doc__" 204 .none] 3})::
 (nat_lit 24,{cls:= .type "type",data:=Data.cls {name:=Str.ofString "PatchError",bases:=[.type "ValueError"],mro:=[.ref 24, .type "ValueError", .type "Exception", .type "BaseException", .type "object"],ns:=23,qualname:=Str.ofString "PatchError",subclasses:=[.ref 37, .ref 49, .ref 61]},slots:= #[some (.ref 15),none,some (hS "PatchError" 189),some (hS "PatchError" 197),some (.builtin "ValueError.__new__"),some (.bool true)]})::
 (nat_lit 25,{cls:= .type "getset_descriptor",data:=Data.fields #[hS "__weakref__" 202, .ref 24, .builtin "ExceptionGroup.__weakref__", .none]})::
 (nat_lit 28,hT #[.ref 24])::
 (nat_lit 35,hT #[])::
 (nat_lit 36,{cls:= .type "dict",data:=Data.dict #[hE P "__module__" 214 (hS "cellpatches.errors" 187),hE P "__firstlineno__" 218 (.int 4 217),hE P "__static_attributes__" 219 (.ref 35),hE P "__doc__" 220 .none] 2})::
 (nat_lit 37,{cls:= .type "type",data:=Data.cls {name:=Str.ofString "NoBoard",bases:=[.ref 24],mro:=[.ref 37, .ref 24, .type "ValueError", .type "Exception", .type "BaseException", .type "object"],ns:=36,qualname:=Str.ofString "NoBoard"},slots:= #[some (.ref 28),none,some (hS "NoBoard" 207),some (hS "NoBoard" 215),some (.builtin "ValueError.__new__"),some (.bool true)]})::
 (nat_lit 40,hT #[.ref 24])::
 (nat_lit 47,hT #[])::
 (nat_lit 48,{cls:= .type "dict",data:=Data.dict #[hE P "__module__" 230 (hS "cellpatches.errors" 187),hE P "__firstlineno__" 234 (.int 6 233),hE P "__static_attributes__" 235 (.ref 47),hE P "__doc__" 236 .none] 2})::
 (nat_lit 49,{cls:= .type "type",data:=Data.cls {name:=Str.ofString "NoWays",bases:=[.ref 24],mro:=[.ref 49, .ref 24, .type "ValueError", .type "Exception", .type "BaseException", .type "object"],ns:=48,qualname:=Str.ofString "NoWays"},slots:= #[some (.ref 40),none,some (hS "NoWays" 223),some (hS "NoWays" 231),some (.builtin "ValueError.__new__"),some (.bool true)]})::
 (nat_lit 52,hT #[.ref 24])::
 (nat_lit 59,hT #[])::
 (nat_lit 60,{cls:= .type "dict",data:=Data.dict #[hE P "__module__" 246 (hS "cellpatches.errors" 187),hE P "__firstlineno__" 250 (.int 8 249),hE P "__static_attributes__" 251 (.ref 59),hE P "__doc__" 252 .none] 2})::
 (nat_lit 61,{cls:= .type "type",data:=Data.cls {name:=Str.ofString "NoCell",bases:=[.ref 24],mro:=[.ref 61, .ref 24, .type "ValueError", .type "Exception", .type "BaseException", .type "object"],ns:=60,qualname:=Str.ofString "NoCell"},slots:= #[some (.ref 52),none,some (hS "NoCell" 239),some (hS "NoCell" 247),some (.builtin "ValueError.__new__"),some (.bool true)]})::
 (nat_lit 64,hT #[])::
 (nat_lit 66,hT #[hS "thing" 266])::
 (nat_lit 67,hT #[])::
 (nat_lit 69,{cls:= .type "code",data:=Data.fields #[hS "is_whole" 263,hS "is_whole" 264,hS "/claim/cut.py" 265, .int 14 0, .int 1 0, .int 0 0, .int 0 0, .int 3 0, .ref 64, .bool true, .int 181 0, .ref 65, .none, .ref 66, .ref 67, .ref 68, .int 267 0, .int 14 0,hS "/claim/cut.py" 268]})::
 (nat_lit 70,hF "is_whole" (top 9) (hS "cellpatches.boards" 255) 69)::
 (nat_lit 71,hT #[])::
 (nat_lit 73,hT #[hS "thing" 273])::
 (nat_lit 74,hT #[])::
 (nat_lit 76,{cls:= .type "code",data:=Data.fields #[hS "is_letter" 270,hS "is_letter" 271,hS "/claim/cut.py" 272, .int 16 0, .int 1 0, .int 0 0, .int 0 0, .int 3 0, .ref 71, .bool true, .int 181 0, .ref 72, .none, .ref 73, .ref 74, .ref 75, .int 274 0, .int 16 0,hS "/claim/cut.py" 275]})::
 (nat_lit 77,hF "is_letter" (top 10) (hS "cellpatches.boards" 255) 76)::
 (nat_lit 78,hT #[])::
 (nat_lit 81,{cls:= .type "code",data:=Data.fields #[hS "is_row" 277,hS "is_row" 278,hS "/claim/cut.py" 279, .int 18 0, .int 1 0, .int 0 0, .int 0 0, .int 3 0, .ref 78, .bool true, .int 181 0, .ref 79, .none, .none, .none, .ref 80, .int 280 0, .int 18 0,hS "/claim/cut.py" 281]})::
 (nat_lit 82,hF "is_row" (top 11) (hS "cellpatches.boards" 255) 81)::
 (nat_lit 83,hT #[])::
 (nat_lit 86,{cls:= .type "code",data:=Data.fields #[hS "is_board" 283,hS "is_board" 284,hS "/claim/cut.py" 285, .int 22 0, .int 1 0, .int 0 0, .int 0 0, .int 3 0, .ref 83, .bool true, .int 181 0, .ref 84, .none, .none, .none, .ref 85, .int 286 0, .int 22 0,hS "/claim/cut.py" 287]})::
 (nat_lit 87,hF "is_board" (top 12) (hS "cellpatches.boards" 255) 86)::
 (nat_lit 88,hT #[])::
 (nat_lit 90,hT #[hS "board" 292,hS "thing" 293])::
 (nat_lit 91,hT #[])::
 (nat_lit 93,{cls:= .type "code",data:=Data.fields #[hS "is_cell" 289,hS "is_cell" 290,hS "/claim/cut.py" 291, .int 28 0, .int 2 0, .int 0 0, .int 0 0, .int 3 0, .ref 88, .bool true, .int 181 0, .ref 89, .none, .ref 90, .ref 91, .ref 92, .int 294 0, .int 28 0,hS "/claim/cut.py" 295]})::
 (nat_lit 94,hF "is_cell" (top 13) (hS "cellpatches.boards" 255) 93)::
 (nat_lit 95,hT #[])::
 (nat_lit 97,hT #[hS "thing" 300])::
 (nat_lit 98,hT #[])::
 (nat_lit 100,{cls:= .type "code",data:=Data.fields #[hS "need_board" 297,hS "need_board" 298,hS "/claim/cut.py" 299, .int 34 0, .int 1 0, .int 0 0, .int 0 0, .int 3 0, .ref 95, .bool true, .int 181 0, .ref 96, .none, .ref 97, .ref 98, .ref 99, .int 301 0, .int 34 0,hS "/claim/cut.py" 302]})::
 (nat_lit 101,hF "need_board" (top 14) (hS "cellpatches.boards" 255) 100)::
 (nat_lit 102,hT #[])::
 (nat_lit 104,hT #[hS "board" 307,hS "thing" 308])::
 (nat_lit 105,hT #[])::
 (nat_lit 107,{cls:= .type "code",data:=Data.fields #[hS "need_cell" 304,hS "need_cell" 305,hS "/claim/cut.py" 306, .int 37 0, .int 2 0, .int 0 0, .int 0 0, .int 3 0, .ref 102, .bool true, .int 181 0, .ref 103, .none, .ref 104, .ref 105, .ref 106, .int 309 0, .int 37 0,hS "/claim/cut.py" 310]})::
 (nat_lit 108,hF "need_cell" (top 15) (hS "cellpatches.boards" 255) 107)::
 (nat_lit 109,hT #[])::
 (nat_lit 111,hT #[hS "thing" 315])::
 (nat_lit 112,hT #[])::
 (nat_lit 114,{cls:= .type "code",data:=Data.fields #[hS "need_ways" 312,hS "need_ways" 313,hS "/claim/cut.py" 314, .int 40 0, .int 1 0, .int 0 0, .int 0 0, .int 3 0, .ref 109, .bool true, .int 181 0, .ref 110, .none, .ref 111, .ref 112, .ref 113, .int 316 0, .int 40 0,hS "/claim/cut.py" 317]})::
 (nat_lit 115,hF "need_ways" (top 16) (hS "cellpatches.boards" 255) 114)::
 (nat_lit 116,hT #[])::
 (nat_lit 119,{cls:= .type "code",data:=Data.fields #[hS "cells_of_row" 319,hS "cells_of_row" 320,hS "/claim/cut.py" 321, .int 43 0, .int 2 0, .int 0 0, .int 0 0, .int 3 0, .ref 116, .bool true, .int 181 0, .ref 117, .none, .none, .none, .ref 118, .int 322 0, .int 43 0,hS "/claim/cut.py" 323]})::
 (nat_lit 120,hF "cells_of_row" (top 17) (hS "cellpatches.boards" 255) 119)::
 (nat_lit 121,hT #[])::
 (nat_lit 123,hT #[hS "board" 328,hS "found" 329,hS "row" 330])::
 (nat_lit 124,hT #[])::
 (nat_lit 126,{cls:= .type "code",data:=Data.fields #[hS "all_cells" 325,hS "all_cells" 326,hS "/claim/cut.py" 327, .int 45 0, .int 1 0, .int 0 0, .int 0 0, .int 3 0, .ref 121, .bool true, .int 181 0, .ref 122, .none, .ref 123, .ref 124, .ref 125, .int 331 0, .int 45 0,hS "/claim/cut.py" 332]})::
 (nat_lit 127,hF "all_cells" (top 18) (hS "cellpatches.boards" 255) 126)::
 (nat_lit 128,hT #[])::
 (nat_lit 130,hT #[hS "board" 337,hS "cell" 338])::
 (nat_lit 131,hT #[])::
 (nat_lit 133,{cls:= .type "code",data:=Data.fields #[hS "letter_of" 334,hS "letter_of" 335,hS "/claim/cut.py" 336, .int 50 0, .int 2 0, .int 0 0, .int 0 0, .int 3 0, .ref 128, .bool true, .int 181 0, .ref 129, .none, .ref 130, .ref 131, .ref 132, .int 339 0, .int 50 0,hS "/claim/cut.py" 340]})::
 (nat_lit 134,hF "letter_of" (top 19) (hS "cellpatches.boards" 255) 133)::
 (nat_lit 135,hT #[])::
 (nat_lit 137,hT #[hS "one" 345,hS "other" 346,hS "ways" 347,hS "down" 348,hS "along" 349])::
 (nat_lit 138,hT #[])::
 (nat_lit 140,{cls:= .type "code",data:=Data.fields #[hS "are_next" 342,hS "are_next" 343,hS "/claim/cut.py" 344, .int 52 0, .int 3 0, .int 0 0, .int 0 0, .int 3 0, .ref 135, .bool true, .int 181 0, .ref 136, .none, .ref 137, .ref 138, .ref 139, .int 350 0, .int 52 0,hS "/claim/cut.py" 351]})::
 (nat_lit 141,hF "are_next" (top 20) (hS "cellpatches.boards" 255) 140)::
 (nat_lit 142,hT #[])::
 (nat_lit 144,hT #[hS "board" 356,hS "cell" 357,hS "ways" 358,hS "found" 359,hS "row" 360,hS "column" 361])::
 (nat_lit 145,hT #[])::
 (nat_lit 147,{cls:= .type "code",data:=Data.fields #[hS "next_cells" 353,hS "next_cells" 354,hS "/claim/cut.py" 355, .int 58 0, .int 3 0, .int 0 0, .int 0 0, .int 3 0, .ref 142, .bool true, .int 181 0, .ref 143, .none, .ref 144, .ref 145, .ref 146, .int 362 0, .int 58 0,hS "/claim/cut.py" 363]})::
 (nat_lit 148,hF "next_cells" (top 21) (hS "cellpatches.boards" 255) 147)::
 (nat_lit 149,hT #[])::
 (nat_lit 151,hT #[hS "things" 368,hS "found" 369,hS "thing" 370])::
 (nat_lit 152,hT #[])::
 (nat_lit 154,{cls:= .type "code",data:=Data.fields #[hS "keyed" 365,hS "keyed" 366,hS "/claim/cut.py" 367, .int 65 0, .int 1 0, .int 0 0, .int 0 0, .int 3 0, .ref 149, .bool true, .int 181 0, .ref 150, .none, .ref 151, .ref 152, .ref 153, .int 371 0, .int 65 0,hS "/claim/cut.py" 372]})::
 (nat_lit 155,hF "keyed" (top 22) (hS "cellpatches.boards" 255) 154)::
 (nat_lit 156,hT #[])::
 (nat_lit 158,hT #[hS "board" 377])::
 (nat_lit 159,hT #[])::
 (nat_lit 161,{cls:= .type "code",data:=Data.fields #[hS "cells" 374,hS "cells" 375,hS "/claim/cut.py" 376, .int 70 0, .int 1 0, .int 0 0, .int 0 0, .int 3 0, .ref 156, .bool true, .int 181 0, .ref 157, .none, .ref 158, .ref 159, .ref 160, .int 378 0, .int 70 0,hS "/claim/cut.py" 379]})::
 (nat_lit 162,hF "cells" (top 23) (hS "cellpatches.boards" 255) 161)::
 (nat_lit 163,hT #[])::
 (nat_lit 165,hT #[hS "board" 384,hS "cell" 385])::
 (nat_lit 166,hT #[])::
 (nat_lit 168,{cls:= .type "code",data:=Data.fields #[hS "letter_at" 381,hS "letter_at" 382,hS "/claim/cut.py" 383, .int 73 0, .int 2 0, .int 0 0, .int 0 0, .int 3 0, .ref 163, .bool true, .int 181 0, .ref 164, .none, .ref 165, .ref 166, .ref 167, .int 386 0, .int 73 0,hS "/claim/cut.py" 387]})::
 (nat_lit 169,hF "letter_at" (top 24) (hS "cellpatches.boards" 255) 168)::
 (nat_lit 170,hT #[])::
 (nat_lit 172,hT #[hS "board" 392,hS "cell" 393,hS "ways" 394])::
 (nat_lit 173,hT #[])::
 (nat_lit 175,{cls:= .type "code",data:=Data.fields #[hS "beside" 389,hS "beside" 390,hS "/claim/cut.py" 391, .int 77 0, .int 3 0, .int 0 0, .int 0 0, .int 3 0, .ref 170, .bool true, .int 181 0, .ref 171, .none, .ref 172, .ref 173, .ref 174, .int 395 0, .int 77 0,hS "/claim/cut.py" 396]})::
 (nat_lit 176,hF "beside" (top 25) (hS "cellpatches.boards" 255) 175)::
 (nat_lit 177,hT #[])::
 (nat_lit 180,{cls:= .type "code",data:=Data.fields #[hS "column_from_below" 398,hS "column_from_below" 399,hS "/claim/cut.py" 400, .int 82 0, .int 2 0, .int 0 0, .int 0 0, .int 3 0, .ref 177, .bool true, .int 181 0, .ref 178, .none, .none, .none, .ref 179, .int 401 0, .int 82 0,hS "/claim/cut.py" 402]})::
 (nat_lit 181,hF "column_from_below" (top 26) (hS "cellpatches.boards" 255) 180)::
 (nat_lit 182,hT #[])::
 (nat_lit 185,{cls:= .type "code",data:=Data.fields #[hS "turned" 404,hS "turned" 405,hS "/claim/cut.py" 406, .int 84 0, .int 1 0, .int 0 0, .int 0 0, .int 3 0, .ref 182, .bool true, .int 181 0, .ref 183, .none, .none, .none, .ref 184, .int 407 0, .int 84 0,hS "/claim/cut.py" 408]})::
 (nat_lit 186,hF "turned" (top 27) (hS "cellpatches.boards" 255) 185)::
 (nat_lit 187,hT #[])::
 (nat_lit 190,{cls:= .type "code",data:=Data.fields #[hS "mirrored" 410,hS "mirrored" 411,hS "/claim/cut.py" 412, .int 87 0, .int 1 0, .int 0 0, .int 0 0, .int 3 0, .ref 187, .bool true, .int 181 0, .ref 188, .none, .none, .none, .ref 189, .int 413 0, .int 87 0,hS "/claim/cut.py" 414]})::
 (nat_lit 191,hF "mirrored" (top 28) (hS "cellpatches.boards" 255) 190)::
 (nat_lit 192,hT #[])::
 (nat_lit 195,{cls:= .type "code",data:=Data.fields #[hS "letters" 416,hS "letters" 417,hS "/claim/cut.py" 418, .int 90 0, .int 1 0, .int 0 0, .int 0 0, .int 3 0, .ref 192, .bool true, .int 181 0, .ref 193, .none, .none, .none, .ref 194, .int 419 0, .int 90 0,hS "/claim/cut.py" 420]})::
 (nat_lit 196,hF "letters" (top 29) (hS "cellpatches.boards" 255) 195)::
 (nat_lit 197,hT #[])::
 (nat_lit 200,{cls:= .type "code",data:=Data.fields #[hS "like_cells" 424,hS "like_cells" 425,hS "/claim/cut.py" 426, .int 95 0, .int 3 0, .int 0 0, .int 0 0, .int 3 0, .ref 197, .bool true, .int 181 0, .ref 198, .none, .none, .none, .ref 199, .int 427 0, .int 95 0,hS "/claim/cut.py" 428]})::
 (nat_lit 201,hF "like_cells" (top 31) (hS "cellpatches.patches" 422) 200)::
 (nat_lit 202,hT #[])::
 (nat_lit 204,hT #[hS "board" 433,hS "start" 434,hS "ways" 435,hS "back" 436,hS "ring" 437,hS "further" 438,hS "cell" 439,hS "near" 440])::
 (nat_lit 205,hT #[])::
 (nat_lit 207,{cls:= .type "code",data:=Data.fields #[hS "steps_back" 430,hS "steps_back" 431,hS "/claim/cut.py" 432, .int 98 0, .int 3 0, .int 0 0, .int 0 0, .int 3 0, .ref 202, .bool true, .int 181 0, .ref 203, .none, .ref 204, .ref 205, .ref 206, .int 441 0, .int 98 0,hS "/claim/cut.py" 442]})::
 (nat_lit 208,hF "steps_back" (top 32) (hS "cellpatches.patches" 422) 207)::
 (nat_lit 209,hT #[])::
 (nat_lit 211,hT #[hS "board" 447,hS "ways" 448,hS "found" 449,hS "seen" 450,hS "cell" 451,hS "patch" 452])::
 (nat_lit 212,hT #[])::
 (nat_lit 214,{cls:= .type "code",data:=Data.fields #[hS "all_patches" 444,hS "all_patches" 445,hS "/claim/cut.py" 446, .int 110 0, .int 2 0, .int 0 0, .int 0 0, .int 3 0, .ref 209, .bool true, .int 181 0, .ref 210, .none, .ref 211, .ref 212, .ref 213, .int 453 0, .int 110 0,hS "/claim/cut.py" 454]})::
 (nat_lit 215,hF "all_patches" (top 33) (hS "cellpatches.patches" 422) 214)::
 (nat_lit 216,hT #[])::
 (nat_lit 218,hT #[hS "found" 459,hS "numbers" 460,hS "number" 461,hS "patch" 462,hS "cell" 463])::
 (nat_lit 219,hT #[])::
 (nat_lit 221,{cls:= .type "code",data:=Data.fields #[hS "numbers_of" 456,hS "numbers_of" 457,hS "/claim/cut.py" 458, .int 119 0, .int 1 0, .int 0 0, .int 0 0, .int 3 0, .ref 216, .bool true, .int 181 0, .ref 217, .none, .ref 218, .ref 219, .ref 220, .int 464 0, .int 119 0,hS "/claim/cut.py" 465]})::
 (nat_lit 222,hF "numbers_of" (top 34) (hS "cellpatches.patches" 422) 221)::
 (nat_lit 223,hT #[])::
 (nat_lit 225,hT #[hS "board" 470,hS "cell" 471,hS "ways" 472])::
 (nat_lit 226,hT #[])::
 (nat_lit 228,{cls:= .type "code",data:=Data.fields #[hS "patch_of" 467,hS "patch_of" 468,hS "/claim/cut.py" 469, .int 125 0, .int 3 0, .int 0 0, .int 0 0, .int 3 0, .ref 223, .bool true, .int 181 0, .ref 224, .none, .ref 225, .ref 226, .ref 227, .int 473 0, .int 125 0,hS "/claim/cut.py" 474]})::
 (nat_lit 229,hF "patch_of" (top 35) (hS "cellpatches.patches" 422) 228)::
 (nat_lit 230,hT #[])::
 (nat_lit 232,hT #[hS "board" 479,hS "ways" 480])::
 (nat_lit 233,hT #[])::
 (nat_lit 235,{cls:= .type "code",data:=Data.fields #[hS "patches" 476,hS "patches" 477,hS "/claim/cut.py" 478, .int 130 0, .int 2 0, .int 0 0, .int 0 0, .int 3 0, .ref 230, .bool true, .int 181 0, .ref 231, .none, .ref 232, .ref 233, .ref 234, .int 481 0, .int 130 0,hS "/claim/cut.py" 482]})::
 (nat_lit 236,hF "patches" (top 36) (hS "cellpatches.patches" 422) 235)::
 (nat_lit 237,hT #[])::
 (nat_lit 239,hT #[hS "board" 487,hS "ways" 488])::
 (nat_lit 240,hT #[])::
 (nat_lit 242,{cls:= .type "code",data:=Data.fields #[hS "how_many" 484,hS "how_many" 485,hS "/claim/cut.py" 486, .int 134 0, .int 2 0, .int 0 0, .int 0 0, .int 3 0, .ref 237, .bool true, .int 181 0, .ref 238, .none, .ref 239, .ref 240, .ref 241, .int 489 0, .int 134 0,hS "/claim/cut.py" 490]})::
 (nat_lit 243,hF "how_many" (top 37) (hS "cellpatches.patches" 422) 242)::
 (nat_lit 244,hT #[])::
 (nat_lit 247,{cls:= .type "code",data:=Data.fields #[hS "numbered" 492,hS "numbered" 493,hS "/claim/cut.py" 494, .int 138 0, .int 2 0, .int 0 0, .int 0 0, .int 3 0, .ref 244, .bool true, .int 181 0, .ref 245, .none, .none, .none, .ref 246, .int 495 0, .int 138 0,hS "/claim/cut.py" 496]})::
 (nat_lit 248,hF "numbered" (top 38) (hS "cellpatches.patches" 422) 247)::
 (nat_lit 249,hT #[])::
 (nat_lit 251,hT #[hS "_law_script" 503,hS "_law_k" 504])::
 (nat_lit 252,hT #[])::
 (nat_lit 254,{cls:= .type "code",data:=Data.fields #[hS "_law_cell" 500,hS "_law_cell" 501,hS "/claim/cut.py" 502, .int 147 0, .int 2 0, .int 0 0, .int 0 0, .int 3 0, .ref 249, .bool true, .int 181 0, .ref 250, .none, .ref 251, .ref 252, .ref 253, .int 505 0, .int 147 0,hS "/claim/cut.py" 506]})::
 (nat_lit 255,hF "_law_cell" (top 40) (hS "law_cellpatches_k11_whole_patches" 498) 254)::
 (nat_lit 256,hT #[])::
 (nat_lit 258,hT #[hS "_law_script" 511,hS "_law_k" 512,hS "_law_many" 513,hS "_law_cell_here" 514])::
 (nat_lit 259,hT #[])::
 (nat_lit 261,{cls:= .type "code",data:=Data.fields #[hS "_law_drawn" 508,hS "_law_drawn" 509,hS "/claim/cut.py" 510, .int 151 0, .int 3 0, .int 0 0, .int 0 0, .int 3 0, .ref 256, .bool true, .int 181 0, .ref 257, .none, .ref 258, .ref 259, .ref 260, .int 515 0, .int 151 0,hS "/claim/cut.py" 516]})::
 (nat_lit 262,hF "_law_drawn" (top 41) (hS "law_cellpatches_k11_whole_patches" 498) 261)::
 (nat_lit 263,hT #[])::
 (nat_lit 266,{cls:= .type "code",data:=Data.fields #[hS "_law_board" 518,hS "_law_board" 519,hS "/claim/cut.py" 520, .int 155 0, .int 3 0, .int 0 0, .int 0 0, .int 3 0, .ref 263, .bool true, .int 181 0, .ref 264, .none, .none, .none, .ref 265, .int 521 0, .int 155 0,hS "/claim/cut.py" 522]})::
 (nat_lit 267,hF "_law_board" (top 42) (hS "law_cellpatches_k11_whole_patches" 498) 266)::
 (nat_lit 280,hT #[])::
 (nat_lit 282,hT #[hS "_law_rows" 548,hS "_law_found" 549,hS "_law_row" 550])::
 (nat_lit 283,hT #[])::
 (nat_lit 285,{cls:= .type "code",data:=Data.fields #[hS "_law_all" 545,hS "_law_all" 546,hS "/claim/cut.py" 547, .int 179 0, .int 1 0, .int 0 0, .int 0 0, .int 3 0, .ref 280, .bool true, .int 181 0, .ref 281, .none, .ref 282, .ref 283, .ref 284, .int 551 0, .int 179 0,hS "/claim/cut.py" 552]})::
 (nat_lit 286,hF "_law_all" (top 45) (hS "law_cellpatches_k11_whole_patches" 498) 285)::
 (nat_lit 287,hT #[])::
 (nat_lit 290,{cls:= .type "code",data:=Data.fields #[hS "law" 554,hS "law" 555,hS "/claim/cut.py" 556, .int 184 0, .int 1 0, .int 0 0, .int 0 0, .int 3 0, .ref 287, .bool true, .int 181 0, .ref 288, .none, .none, .none, .ref 289, .int 557 0, .int 184 0,hS "/claim/cut.py" 558]})::
 (nat_lit 291,hF "law" (top 46) (hS "law_cellpatches_k11_whole_patches" 498) 290)::[]
def nI:List Nat:=[2,3,15,22,23,24,25,28,35,36,37,40,47,48,49,52,59,60,61,64,66,67,69,70,71,73,74,76,77,78,81,82,83,86,87,88,90,91,93,94,95,97,98,100,101,102,104,105,107,108,109,111,112,114,115,116,119,120,121,123,124,126,127,128,130,131,133,134,135,137,138,140,141,142,144,145,147,148,149,151,152,154,155,156,158,159,161,162,163,165,166,168,169,170,172,173,175,176,177,180,181,182,185,186,187,190,191,192,195,196,197,200,201,202,204,205,207,208,209,211,212,214,215,216,218,219,221,222,223,225,226,228,229,230,232,233,235,236,237,239,240,242,243,244,247,248,249,251,252,254,255,256,258,259,261,262,263,266,267,280,282,283,285,286,287,290,291]
def vJ:Program:={PySem.Challenge.pw_cellpatches_k11_whole_patches with main:={PySem.Challenge.pw_cellpatches_k11_whole_patches.main with body:=[top 1,top 2,top 3,top 4,top 6,top 7,top 8,top 9,top 10,top 11,top 12,top 13,top 14,top 15,top 16,top 17,top 18,top 19,top 20,top 21,top 22,top 23,top 24,top 25,top 26,top 27,top 28,top 29,top 31,top 32,top 33,top 34,top 35,top 36,top 37,top 38,top 40,top 41,top 42,top 43,top 44,top 45,top 46]} }
open PySem.W PyProof.Rows in
set_option maxHeartbeats 0 in
theorem KH:LeftO PySem.Challenge.rw_cellpatches_k11_whole_patches.row.prog vJ [] (fun s=>xlAt vJ [] s&&recOk PySem.Challenge.rw_cellpatches_k11_whole_patches.row.records s) (kHook nJ nI (fun _=>by kernel_rfl)).obs (kHook nJ nI (fun _=>by kernel_rfl)).val 4024:=fun w=>by kernel_rfl
end K1
namespace L2
open PySem PySem.Spec PyProof.Rows
abbrev Key:=Sum Int Str
def nU:Key→Value→Bool
 | .inl k,v=>Value.isInt k v
 | .inr x,v=>Value.isStrOf x v
def Lf(w:World):Key→Int
 | .inl k=>hashInt k
 | .inr x=>hashStr w x
theorem bL:∀{k:Key}{v:Value},nU k v=true→(∃i t,k=Sum.inl i∧v=Value.int i t)∨(∃x t,k=Sum.inr x∧v=Value.str x t)
 | .inl i,v,h=>by
   obtain⟨t,e⟩:=Value.isInt_shape (k:=i) (v:=v) h
   exact .inl ⟨i,t,rfl,e⟩
 | .inr x,v,h=>by
   obtain⟨t,e⟩:=Value.isStrOf_shape (x:=x) (v:=v) h
   exact .inr ⟨x,t,rfl,e⟩
theorem z8(i:Int)(t:Tok):nU (.inl i) (.int i t)=true:=by simp[nU,Value.isInt]
theorem z9(x:Str)(t:Tok):nU (.inr x) (.str x t)=true:=by simp[nU,Value.isStrOf]
theorem IC(a b:Int):decide ((Sum.inl a:Key)=Sum.inl b)=(a==b):=by
 by_cases e:a=b
 ·subst e;simp
 ·have h:¬(Sum.inl a:Key)=Sum.inl b:=fun q=>e (Sum.inl.inj q)
  rw[decide_eq_false h]
  exact(beq_eq_false_iff_ne.mpr e).symm
theorem IF(a b:Str):decide ((Sum.inr a:Key)=Sum.inr b)=decide (a=b):=by
 by_cases e:a=b
 ·subst e;simp
 ·have h:¬(Sum.inr a:Key)=Sum.inr b:=fun q=>e (Sum.inr.inj q)
  rw[decide_eq_false h,decide_eq_false e]
theorem ID(a:Int)(b:Str):decide ((Sum.inl a:Key)=Sum.inr b)=false:=decide_eq_false (fun q=>nomatch q)
theorem IE(a:Str)(b:Int):decide ((Sum.inr a:Key)=Sum.inl b)=false:=decide_eq_false (fun q=>nomatch q)
def aY(prog:Program)(w:World):PySem.KeyKind prog w Key where
 is:=nU
 hash:=Lf w
 inj:=fun v a b ha hb=>by
  rcases bL ha with⟨i,t,rfl,rfl⟩ | ⟨x,t,rfl,rfl⟩
  ·rcases bL hb with⟨j,u,rfl,e⟩ | ⟨y,u,rfl,e⟩
   ·injection e with e1 _;rw[e1]
   ·exact nomatch e
  ·rcases bL hb with⟨j,u,rfl,e⟩ | ⟨y,u,rfl,e⟩
   ·exact nomatch e
   ·injection e with e1 _;rw[e1]
 byValue:=fun k v h=>by
  rcases bL h with⟨i,t,rfl,rfl⟩ | ⟨x,t,rfl,rfl⟩<;>rfl
 pyHash:=fun hv h=>by
  rcases bL hv with⟨i,t,rfl,rfl⟩ | ⟨x,t,rfl,rfl⟩
  ·exact wpAny_pyHash_int h
  ·exact wpAny_pyHash_str h
 eqBool:=fun hu hv h=>by
  rcases bL hu with⟨i,t,rfl,rfl⟩ | ⟨x,t,rfl,rfl⟩
  ·rcases bL hv with⟨j,u,rfl,rfl⟩ | ⟨y,u,rfl,rfl⟩
   ·rw[IC] at h;exact wpAny_eqBool_int h
   ·rw[ID] at h;exact SeqAt.EqAt.int_str i t y u _ _ _ _ h
  ·rcases bL hv with⟨j,u,rfl,rfl⟩ | ⟨y,u,rfl,rfl⟩
   ·rw[IE] at h;exact SeqAt.EqAt.str_int x t j u _ _ _ _ h
   ·rw[IF] at h;exact wpAny_eqBool_str h
 «strs» :=fun k x t v h=>by
  rcases bL h with⟨i,u,rfl,e⟩ | ⟨y,u,rfl,e⟩
  ·exact nomatch e
  ·injection e with e1 _
   subst e1
   cases v<;>rfl
theorem uK(prog:Program)(w:World)(i:Int)(t:Tok):(aY prog w).is (.inl i) (.int i t)=true:=z8 i t
theorem l8(prog:Program)(w:World)(x:Str)(t:Tok):(aY prog w).is (.inr x) (.str x t)=true:=z9 x t
inductive V where
 |non | bl (b:Bool) | int (i:Int) | str (x:Str) | byt (b:Array UInt8) | flt (b:UInt64) | ref (a:Addr) | ty (n:String)
 deriving DecidableEq
def RelV:V→Value→Prop
 | .non,u=>u=Value.none
 | .bl b,u=>u=Value.bool b
 | .int i,u=>∃t,u=Value.int i t
 | .str x,u=>∃t,u=Value.str x t
 | .byt b,u=>∃t,u=Value.bytes b t
 | .flt b,u=>∃t,u=Value.float b t
 | .ref a,u=>u=Value.ref a
 | .ty n,u=>u=Value.type n
abbrev Vals:List V→List Value→Prop:=Paired RelV
theorem Vals.length{xs:List V}{us:List Value}(r:Vals xs us):xs.length=us.length:=Paired.length r
theorem Vals.get:∀{xs:List V}{us:List Value}{i:Nat}{x:V},Vals xs us→xs[i]? =some x→∃u,us[i]? =some u∧RelV x u
 |_,_,_,_, .nil,e=>by simp at e
 |_,_,0,_, .cons r _,e=>by simp at e;subst e;exact⟨_,rfl,r⟩
 |_,_,i+1,x, .cons _ t,e=>by
  obtain⟨u,h1,h2⟩:=Vals.get (i:=i) (x:=x) t (by simpa using e)
  exact⟨u,by simpa using h1,h2⟩
theorem Vals.append:∀{xs ys:List V}{us ws:List Value},Vals xs us→Vals ys ws→Vals (xs++ys) (us++ws)
 |_,_,_,_, .nil,s=>s
 |_,_,_,_, .cons r t,s=> .cons r (Vals.append t s)
theorem Vals.take:∀{xs:List V}{us:List Value}(n:Nat),Vals xs us→Vals (xs.take n) (us.take n)
 |_,_,0,_=> .nil
 |_,_,_+1, .nil=> .nil
 |_,_,n+1, .cons r t=> .cons r (Vals.take n t)
theorem Vals.drop:∀{xs:List V}{us:List Value}(n:Nat),Vals xs us→Vals (xs.drop n) (us.drop n)
 |_,_,0,r=>r
 |_,_,_+1, .nil=> .nil
 |_,_,n+1, .cons _ t=>Vals.drop n t
def RelO:Option V→Option Value→Prop
 |some v,some u=>RelV v u
 |none,none=>True
 |_,_=>False
def KV{κ:Type}:List (κ×V)→List (κ×Value)→Prop:=Paired fun(p:κ×V) (q:κ×Value)=>p.1=q.1∧RelV p.2 q.2
def kV:Key→V
 | .inl i=> .int i
 | .inr x=> .str x
inductive HO where
 |lst (xs:List V)
 |tup (xs:List V)
 |dK (ar:List (Key×V)) | dT (ar:List (List Key×V))
 |set (S:Int→Bool) (n:Nat)
 |ins (C dx:Addr) (fs:List (Str×V))
 |own (x:Addr)
 |xd (fs:List (Str×V))
 |met (f x:Addr)
 |rng (lo hi:Int)
 |frz (o:Obj) (u:HO)
 |tbl (ps:Array Value)
 |ext (φ:Heap→Prop)
abbrev Hp:=Addr→Option HO
def upd(H:Hp)(a:Addr)(o:HO):Hp:=fun b=>if b=a then some o else H b
theorem aF{H:Hp}{a:Addr}{o:HO}:upd H a o a=some o:=by unfold upd;rw[if_pos rfl]
theorem au{H:Hp}{a b:Addr}{o:HO}(h:b≠a):upd H a o b=H b:=by unfold upd;rw[if_neg h]
theorem CN{H:Hp}{a b:Addr}{o u:HO}(h:H a=some o)(h':H b=some u)(d:o≠u):a≠b:=by
 intro e;subst e;rw[h] at h';exact d (Option.some.inj h')
theorem bc{H:Hp}{a b:Addr}{o:HO}(h:H a=some o)(h':H b=none):a≠b:=by
 intro e;subst e;rw[h] at h';cases h'
section
variable(P:Program)(w:World)
def ObjOk(H:Hp)(h:Heap)(a:Addr):HO→Prop
 | .lst xs=>xs.length≤sizeLine∧∃(aD:List Value) (n:Nat),Vals xs aD∧h.get? a=some {cls:= .type "list",data:= .seq aD.toArray n}
 | .tup xs=>xs.length≤sizeLine∧∃aD:List Value,Vals xs aD∧IsTup h a aD.toArray
 | .dK ar=>ar.length≤sizeLine∧(a==sysModules)=false∧∃vs,KV ar vs∧h.DictOf (aY P w) a vs
 | .dT ar=>ar.length≤sizeLine∧(a==sysModules)=false∧∃xs:List (List Key×Addr×Value),
    Paired (fun (p:List Key×V) (q:List Key×Addr×Value)=>p.1=q.1∧H q.2.1=some (.tup (p.1.map kV))∧RelV p.2 q.2.2) ar xs∧
    ∃o es ep,h.get? a=some o∧o.ExactDict∧o.data= .dict es ep∧es.toList=xs.map (entryOfKey (tupleKind (aY P w)))∧(xs.map (·.1)).Nodup
 | .set S n=>h.SetOf (intKind P w) a S n
 | .ins C dx fs=>H dx=some (.own a)∧fs.length≤1000∧dx≠a∧h.get? a=some (PySem.W.instObj C dx)∧
    ∃mA,h.Ns1 dx mA∧(∀f,RelO (fs.lookup f) (mA f))∧PySem.Within mA (fs.map (·.1))
 | .own _=>∃o,h.get? a=some o
 | .xd fs=>∃mA,h.Ns1 a mA∧∀f,RelO (fs.lookup f) (mA f)
 | .rng lo hi=>∃t u v,h.get? a=some {cls:= .type "range",data:= .fields #[.int lo t, .int hi u, .int 1 v]}
 | .frz o u=>h.get? a=some o∧ObjOk H h a u
 | .tbl ps=>h.get? a=some {cls:= .none,data:= .fields ps}
 | .met f x=>h.get? a=some (PySem.W.methodObj (.ref f) (.ref x))
 | .ext φ=>φ h∧(∃o,h.get? a=some o)∧∀h1 h2:Heap,φ h1→(∀o,h1.get? a=some o→h2.get? a=some o)→φ h2
def HOk(H:Hp)(h:Heap):Prop:=∀a o,H a=some o→ObjOk P w H h a o
end
section
variable{P:Program}{w:World}{H H':Hp}{h h':Heap}{a:Addr}{o:HO}
theorem ObjOk.lt(x:ObjOk P w H h a o):a<h.objs.size:=by
 cases o with
 |lst xs=>obtain⟨_,_,_,_,e⟩:=x;exact Heap.lt_size e
 |tup xs=>obtain⟨_,_,_,p⟩:=x;exact p.lt
 |dK ar=>obtain⟨_,_,_,_,o,_,_,e,_⟩:=x;exact Heap.lt_size e
 |dT ar=>obtain⟨_,_,_,_,o,_,_,e,_⟩:=x;exact Heap.lt_size e
 |set S n=>obtain⟨o,_,_,_,e,_⟩:=x;exact Heap.lt_size e
 |ins C dx fs=>obtain⟨_,_,_,e,_⟩:=x;exact Heap.lt_size e
 |own y=>obtain⟨_,e⟩:=x;exact Heap.lt_size e
 |xd fs=>obtain⟨_,⟨_,_,_,e,_⟩,_⟩:=x;exact Heap.lt_size e
 |rng lo hi=>obtain⟨_,_,_,e⟩:=x;exact Heap.lt_size e
 |frz ob u=>obtain⟨e,_⟩:=x;exact Heap.lt_size e
 |tbl ps=>exact Heap.lt_size (show h.get? a=some _ from x)
 |met f y=>exact Heap.lt_size (show h.get? a=some _ from x)
 |ext φ=>obtain⟨_,⟨_,e⟩,_⟩:=x;exact Heap.lt_size e
theorem Paired.mapP{α β:Type}{F G:α→β→Prop}:∀{l₁:List α}{l₂:List β},Paired F l₁ l₂→(∀a b,F a b→G a b)→Paired G l₁ l₂
 |_,_, .nil,_=> .nil
 |_,_, .cons r t,f=> .cons (f _ _ r) (Paired.mapP t f)
theorem ObjOk.stay(x:ObjOk P w H h a o)(k:∀b u,(b=a∨H b=some (.own a))→h.get? b=some u→h'.get? b=some u)
 (ho:∀b,H b=some (.own a)→H' b=some (.own a))(ht:∀b xs,H b=some (.tup xs)→H' b=some (.tup xs)):ObjOk P w H' h' a o:=by
 induction o with
 |lst xs=>obtain⟨z,aD,n,r,e⟩:=x;exact⟨z,aD,n,r,k _ _ (.inl rfl) e⟩
 |tup xs=>obtain⟨z,aD,r,ob,e,c⟩:=x;exact⟨z,aD,r,ob,k _ _ (.inl rfl) e,c⟩
 |dK ar=>obtain⟨z,y,vs,r,ob,es,ep,e,c⟩:=x;exact⟨z,y,vs,r,ob,es,ep,k _ _ (.inl rfl) e,c⟩
 |dT ar=>
  obtain⟨z,y,xs,r,ob,es,ep,e,c⟩:=x
  exact⟨z,y,xs,Paired.mapP r fun p q z=>⟨z.1,ht _ _ z.2.1,z.2.2⟩,ob,es,ep,k _ _ (.inl rfl) e,c⟩
 |set S n=>obtain⟨ob,es,ep,t,e,c⟩:=x;exact⟨ob,es,ep,t,k _ _ (.inl rfl) e,c⟩
 |ins C dx fs=>
  obtain⟨d,z,ne,e,mA,⟨od,es,ep,e2,c⟩,r⟩:=x
  exact⟨ho _ d,z,ne,k _ _ (.inl rfl) e,mA,⟨od,es,ep,k _ _ (.inr d) e2,c⟩,r⟩
 |own y=>obtain⟨ob,e⟩:=x;exact⟨ob,k _ _ (.inl rfl) e⟩
 |xd fs=>obtain⟨mA,⟨od,es,ep,e,c⟩,r⟩:=x;exact⟨mA,⟨od,es,ep,k _ _ (.inl rfl) e,c⟩,r⟩
 |rng lo hi=>obtain⟨t,u,v,e⟩:=x;exact⟨t,u,v,k _ _ (.inl rfl) e⟩
 |frz ob u ih=>obtain⟨e,q⟩:=x;exact⟨k _ _ (.inl rfl) e,ih q⟩
 |tbl ps=>
  have e:h.get? a=some {cls:= .none,data:= .fields ps}:=x
  show h'.get? a=some {cls:= .none,data:= .fields ps}
  exact k a _ (.inl rfl) e
 |met f y=>
  have e:h.get? a=some (PySem.W.methodObj (.ref f) (.ref y)):=x
  show h'.get? a=some (PySem.W.methodObj (.ref f) (.ref y))
  exact k a _ (.inl rfl) e
 |ext φ=>obtain⟨p,⟨o,e⟩,st⟩:=x;exact⟨st _ _ p fun o q=>k _ _ (.inl rfl) q,⟨o,k _ _ (.inl rfl) e⟩,st⟩
theorem HOk.lt(x:HOk P w H h)(e:H a=some o):a<h.objs.size:=(x a o e).lt
theorem HOk.fresh(x:HOk P w H h)(e:h.objs.size≤a):H a=none:=by
 cases q:H a with
 |none=>rfl
 |some u=>exact absurd (Nat.lt_of_lt_of_le (x.lt q) e) (Nat.lt_irrefl _)
theorem HOk.kept(x:HOk P w H h)(k:∀b u,h.get? b=some u→h'.get? b=some u):HOk P w H h':=fun a o e=>
 (x a o e).stay (fun b u _ q=>k b u q) (fun _ q=>q) fun _ _ q=>q
theorem HOk.laid(x:HOk P w H h)(k:∀b u,h.get? b=some u→h'.get? b=some u)(hp:h.objs.size≤a)(new:ObjOk P w (upd H a o) h' a o):HOk P w (upd H a o) h':=fun b u e=>by
 have hn:=x.fresh hp
 by_cases hb:b=a
 ·subst hb;rw[aF] at e;cases e;exact new
 ·rw[au hb] at e
  exact(x b u e).stay (fun c v _ q=>k c v q) (fun c q=>by rw[au (bc q hn)];exact q) fun c xs q=>by rw[au (bc q hn)];exact q
end
def Rd(H:Hp)(a:Addr)(u:HO):Prop:=H a=some u∨∃o,H a=some (.frz o u)
theorem Rd.ok{P:Program}{w:World}{H:Hp}{h:Heap}{a:Addr}{u:HO}(r:Rd H a u)(x:HOk P w H h):ObjOk P w H h a u:=by
 rcases r with r | ⟨o,r⟩
 ·exact x a u r
 ·obtain⟨_,q⟩:=x a _ r
  exact q
def J5:Option HO→Prop
 |some (.lst _)=>True
 |some (.dK _)=>True
 |some (.dT _)=>True
 |some (.set _ _)=>True
 |some (.ins _ _ _)=>True
 |some (.ext _)=>True
 |_=>False
section
variable{P:Program}{w:World}{H:Hp}{h h':Heap}{x e:Addr}{o':HO}
theorem HOk.write(ok:HOk P w H h)(mu:J5 (H x))(he:e=x∨H e=some (.own x))(k:∀b u,b≠e→h.get? b=some u→h'.get? b=some u)(Bh:∃u,h'.get? e=some u)
 (new:ObjOk P w (upd H x o') h' x o'):HOk P w (upd H x o') h':=fun b u q=>by
 have Lk:∀c y,H c=some (.own y)→c≠x:=fun c y r z=>by subst z;rw[r] at mu;exact mu
 have N7:∀c xs,H c=some (.tup xs)→c≠x:=fun c xs r z=>by subst z;rw[r] at mu;exact mu
 by_cases hb:b=x
 ·subst hb;rw[aF] at q;cases q;exact new
 ·rw[au hb] at q
  by_cases HG:b=e
  ·have q':H b=some (.own x):=by
    rcases he with z | z
    ·exact absurd (HG.trans z) hb
    ·rw[HG];exact z
   rw[q] at q';cases q'
   obtain⟨v,hv⟩:=Bh
   exact⟨v,by rw[HG];exact hv⟩
  ·refine(ok b u q).stay (fun c v hc r=>k c v ?_ r) (fun c r=>by rw[au (Lk c b r)];exact r) fun c xs r=>by rw[au (N7 c xs r)];exact r
   rcases hc with rfl | hc
   ·exact HG
   ·rintro rfl
    rcases he with z | z
    ·exact Lk c b hc z
    ·rw[hc] at z;cases z;exact hb rfl
end
structure Un (fs ex:List Addr) (H H':Hp) (h h':Heap):Prop where
 keep:∀b o,h.get? b=some o→H b=none→b∉fs→b∉ex→h'.get? b=some o
 slot:∀b o,h.get? b=some o→H b=none→b∈fs→b∉ex→∃sl,h'.get? b=some {o with slots:=sl}
 free:∀b o,h.get? b=some o→H b=none→b∉ex→H' b=none
 there:∀b o,h.get? b=some o→b∉ex→∃o',h'.get? b=some o'
 tups:∀b xs,H b=some (.tup xs)→H' b=some (.tup xs)
 frzs:∀b o u,H b=some (.frz o u)→H' b=some (.frz o u)
 tbls:∀b ps,H b=some (.tbl ps)→∃more,H' b=some (.tbl (ps++more))
section
variable{fs MT ex wy:List Addr}{H H1 H2:Hp}{h h1 h2 h':Heap}{a x e:Addr}{o:HO}
theorem Un.any(u:Un fs ex H H1 h h1){b:Addr}{ob:Obj}(q:h.get? b=some ob)(n:H b=none)(hx:b∉ex):∃sl,h1.get? b=some {ob with slots:=sl}:=by
 by_cases hb:b∈fs
 ·exact u.slot b ob q n hb hx
 ·exact⟨ob.slots,u.keep b ob q n hb hx⟩
theorem Un.trans(a:Un fs ex H H1 h h1)(b:Un fs ex H1 H2 h1 h2):Un fs ex H H2 h h2 where
 keep:=fun c ob q n hc hx=>b.keep c ob (a.keep c ob q n hc hx) (a.free c ob q n hx) hc hx
 slot:=fun c ob q n hc hx=>by
  obtain⟨sl,e1⟩:=a.slot c ob q n hc hx
  obtain⟨JB,e2⟩:=b.slot c _ e1 (a.free c ob q n hx) hc hx
  exact⟨JB,e2⟩
 free:=fun c ob q n hx=>by
  obtain⟨o',e1⟩:=a.there c ob q hx
  exact b.free c o' e1 (a.free c ob q n hx) hx
 there:=fun c ob q hx=>by
  obtain⟨o',e1⟩:=a.there c ob q hx
  exact b.there c o' e1 hx
 tups:=fun c xs q=>b.tups c xs (a.tups c xs q)
 frzs:=fun c ob xs q=>b.frzs c ob xs (a.frzs c ob xs q)
 tbls:=fun c ps q=>by
  obtain⟨m1,e1⟩:=a.tbls c ps q
  obtain⟨m2,e2⟩:=b.tbls c _ e1
  exact⟨m1++m2,by rw[e2,Array.append_assoc]⟩
theorem Un.kept(k:∀b u,h.get? b=some u→h'.get? b=some u):Un fs ex H H h h':=
 ⟨fun b ob q _ _ _=>k b ob q,fun b ob q _ _ _=>⟨ob.slots,k b ob q⟩,fun _ _ _ n _=>n,fun b ob q _=>⟨ob,k b ob q⟩,fun _ _ q=>q,fun _ _ _ q=>q,fun _ ps q=>⟨#[],by rw[q];simp⟩⟩
theorem Un.refl:Un fs ex H H h h:=Un.kept fun _ _ q=>q
theorem Un.laid(k:∀b u,h.get? b=some u→h'.get? b=some u)(hp:h.objs.size≤a)(hn:H a=none):Un fs ex H (upd H a o) h h' where
 keep:=fun b u q _ _ _=>k b u q
 slot:=fun b u q _ _ _=>⟨u.slots,k b u q⟩
 free:=fun b u q n _=>by rw[au (Nat.ne_of_lt (Nat.lt_of_lt_of_le (Heap.lt_size q) hp))];exact n
 there:=fun b u q _=>⟨u,k b u q⟩
 tups:=fun b xs q=>by rw[au (bc q hn)];exact q
 frzs:=fun b u xs q=>by rw[au (bc q hn)];exact q
 tbls:=fun b ps q=>⟨#[],by rw[au (bc q hn),q];simp⟩
theorem Un.write(mu:J5 (H x))(he:e=x∨H e=some (.own x))(k:∀b u,b≠e→h.get? b=some u→h'.get? b=some u)(Bh:∃u,h'.get? e=some u):Un fs ex H (upd H x o) h h':=by
 have hx:∀b,H b=none→b≠x:=fun b n z=>by subst z;rw[n] at mu;exact mu
 have hb:∀b,H b=none→b≠e:=fun b n z=>by
  subst z
  rcases he with r | r
  ·exact hx b n r
  ·rw[n] at r;cases r
 have hm:∀b u,H b=some u→¬J5 (some u)→b≠x:=fun b u q nm z=>by subst z;rw[q] at mu;exact nm mu
 refine⟨fun b u q n _ _=>k b u (hb b n) q,fun b u q n _ _=>⟨u.slots,k b u (hb b n) q⟩,fun b u q n _=>by rw[au (hx b n)];exact n,fun b u q _=>?_,
  fun b xs q=>by rw[au (hm b _ q fun z=>z)];exact q,fun b u xs q=>by rw[au (hm b _ q fun z=>z)];exact q,fun b ps q=>⟨#[],by rw[au (hm b _ q fun z=>z),q];simp⟩⟩
 by_cases HG:b=e
 ·subst HG;exact Bh
 ·exact⟨u,k b u HG q⟩
theorem Un.mono(u:Un fs ex H H1 h h1)(hs:∀b∈fs,b∈MT)(hx:∀b∈ex,b∈wy):Un MT wy H H1 h h1:=
 ⟨fun b ob q n hb he=>u.keep b ob q n (fun z=>hb (hs b z)) fun z=>he (hx b z),fun _ _ q n _ he=>u.any q n fun z=>he (hx _ z),fun b ob q n he=>u.free b ob q n fun z=>he (hx b z),fun b ob q he=>u.there b ob q fun z=>he (hx b z),u.tups,u.frzs,u.tbls⟩
end
def Mw(h:Heap)(H:Hp):List Addr:=(List.range h.objs.size).filter fun a=>(H a).isSome
def rT(h:Heap)(H:Hp):Heap:=PySem.W.hideAll h (Mw h H)
theorem zS(h:Heap)(H:Hp):(rT h H).objs.size=h.objs.size:=PySem.W.hideAll_size _ _
theorem Cc{h:Heap}{H:Hp}{b:Addr}{o:Obj}(e:h.get? b=some o)(n:H b=none):(rT h H).get? b=some o:=
 PySem.W.hideAll_get _ e fun hm=>by
  have q:(H b).isSome=true:=(List.mem_filter.mp hm).2
  rw[n] at q;simp at q
theorem Fw{h:Heap}{H:Hp}{b:Addr}{o:Obj}(e:(rT h H).get? b=some o):h.get? b=some o∧H b=none:=by
 have e':h.get? b=some o:=PySem.W.of_hideAll (Mw h H) e
 refine⟨e',?_⟩
 cases q:H b with
 |none=>rfl
 |some x=>
  have hm:b∈Mw h H:=List.mem_filter.mpr ⟨List.mem_range.mpr (Heap.lt_size e'),by simp[q]⟩
  have z:(rT h H).get? b=none:=PySem.W.hideAll_none (Mw h H) hm
  rw[z] at e;cases e
def EF(g h:Heap)(L:Addr):List (Addr×Obj):=(List.range h.objs.size).filterMap fun a=>if a=L∨(g.get? a).isSome=true then none else(h.get? a).map fun o=>(a,o)
def rest(g h:Heap)(L d:Addr):List (Addr×Obj):=(EF g h L).filter fun p=>decide (p.1≠d)
structure Mod (K:W.Frag) (mg:Str→Option Value) (base:Heap):Prop where
 kin:K.In base
 glob:base.Ns mainGlobals mg
 blt:∃mb,base.Ns builtinsNs mb∧∀x:Str,x≠"__name__"→mb x=bootBuiltins x
 nolimit:base.NoLimit
structure Cx where
 prog:Program
 w:World
 K:W.Frag
 mg:Str→Option Value
 base:Heap
 A:Around
 N:List Str
 s₀:Shared
 H₀:Hp
 env:Env
 outer:List Env
 stack:List Env
 ex:List Addr
 fn:Str→Bool
 calm:Bool
 pn:List (Addr×Obj)
 xe:Value→Shared→Prop
def mR(l:List Env):List Addr:=l.filterMap (·.frame)
abbrev Cx.fs(X:Cx):List Addr:=mR X.outer
def ML(sc:Scope)(x:Str):Prop:=sc.names.lookup x=some .local∨sc.names.lookup x=some .cell∨sc.names.lookup x=some .free
def Loc(sc:Scope)(x:Str):Prop:=sc.names.lookup x=some .local∨sc.names.lookup x=some .cell
def Look(env:Env)(h:Heap)(m:Str→Option Value)(x:Str)(u:Value):Prop:=
 (env.kindOf x=some .local∧m x=some u)∨((env.kindOf x=some .cell∨env.kindOf x=some .free)∧∃c,env.cells.lookup x=some c∧h.IsCell c (some u))
structure Cx.Ok (X:Cx):Prop where
 mod:Mod X.K X.mg X.base
 kind:X.env.scope.kind= .function
 glob:X.env.globals=mainGlobals
 blt:X.env.builtins=builtinsNs
 above:X.s₀.heap.objs.size≤X.env.locals
 inj:∀x y c,X.env.cells.lookup x=some c→X.env.cells.lookup y=some c→x=y
 has:∀x,(X.env.kindOf x=some .cell∨X.env.kindOf x=some .free)→∃c,X.env.cells.lookup x=some c
 cab:∀x c,X.fn x=true→X.env.cells.lookup x=some c→X.s₀.heap.objs.size≤c
 hd:X.calm=true→X.A.handled=none
 frames:X.A.frames=some X.stack
 stk:X.stack=X.outer∨(X.stack=X.env::X.outer∧X.env.frame=some X.env.locals)
 exf:∀b∈X.ex,b≠X.env.locals∧∀x c,X.env.cells.lookup x=some c→c≠b
 bs:∀b o,X.base.get? b=some o→X.s₀.heap.get? b=some o∧X.H₀ b=none
 bsz:X.base.objs.size≤X.s₀.heap.objs.size
 noex:∀b o,X.base.get? b=some o→b∉X.ex
 exfs:∀b∈X.ex,b∉X.fs
 funs:X.s₀.heap.FunFrames X.base X.outer
 frf:∀b∈X.fs,X.H₀ b=none
structure Inv (X:Cx) (pins:List (Addr×Obj)) (σ:List (Option V)) (H:Hp) (s:Shared):Prop where
 ok:X.Ok
 os:s.os=X.s₀.os
 bare:AllBare s.gens
 base:Un X.fs X.ex X.H₀ H X.s₀.heap s.heap
 loc:∃m,s.heap.Ns X.env.locals m∧∀(i:Nat) (x:Str) (v:V),X.N[i]? =some x→σ[i]? =some (some v)→ML X.env.scope x→∃u,RelV v u∧Look X.env s.heap m x u
 cell:∀x c,X.env.cells.lookup x=some c→∃v,s.heap.IsCell c v
 free:H X.env.locals=none
 freeC:∀x c,X.env.cells.lookup x=some c→H c=none
 pin:∀p∈X.pn++pins,s.heap.get? p.1=some p.2∧H p.1=none∧p.1≠X.env.locals∧p.1∉X.fs∧∀v,p.2.data≠ .cell v
 hok:HOk X.prog X.w H s.heap
 len:σ.length=X.N.length
section
variable{X:Cx}{pins:List (Addr×Obj)}{σ:List (Option V)}{H H':Hp}{s:Shared}{h':Heap}
theorem Cx.Ok.nofr(ok:X.Ok){b:Addr}{o:Obj}(e:X.base.get? b=some o):b∉X.fs:=fun hb=>by
 have:=(ok.funs.mem hb).1
 rw[e] at this;cases this
theorem Inv.bs(I:Inv X pins σ H s):∀b o,X.base.get? b=some o→s.heap.get? b=some o∧H b=none:=fun b o e=>
 ⟨I.base.keep b o (I.ok.bs b o e).1 (I.ok.bs b o e).2 (I.ok.nofr e) (I.ok.noex b o e),I.base.free b o (I.ok.bs b o e).1 (I.ok.bs b o e).2 (I.ok.noex b o e)⟩
theorem Inv.bk(I:Inv X pins σ H s):∀b o,X.base.get? b=some o→s.heap.get? b=some o:=fun b o e=>(I.bs b o e).1
theorem Inv.mod(I:Inv X pins σ H s):Mod X.K X.mg X.base:=I.ok.mod
theorem Inv.kIn(I:Inv X pins σ H s):X.K.In s.heap:=I.ok.mod.kin.keeps I.bk
theorem Inv.nolimit(I:Inv X pins σ H s):s.heap.NoLimit:=I.ok.mod.nolimit.keeps I.bk
theorem Inv.lt(I:Inv X pins σ H s):X.env.locals<s.heap.objs.size:=let ⟨_,hn,_⟩:=I.loc;hn.lt
theorem Inv.sz(I:Inv X pins σ H s):X.s₀.heap.objs.size≤s.heap.objs.size:=Nat.le_trans I.ok.above (Nat.le_of_lt I.lt)
theorem Inv.nofs(I:Inv X pins σ H s){a:Addr}(h:s.heap.objs.size≤a):a∉X.fs:=fun hb=>by
 obtain⟨_,o,ho,_⟩:=I.ok.funs.mem hb
 exact absurd (Nat.lt_of_lt_of_le (Heap.lt_size ho) (Nat.le_trans I.sz h)) (Nat.lt_irrefl _)
theorem Inv.cne(I:Inv X pins σ H s):∀x c,X.env.cells.lookup x=some c→c≠X.env.locals:=fun x c e z=>by
 obtain⟨v,o,ho,hd⟩:=I.cell x c e
 obtain⟨m,⟨o',es,ep,qk,pA,_⟩,_⟩:=I.loc
 rw[z,qk] at ho;cases ho;rw[pA] at hd;cases hd
theorem Inv.funs(I:Inv X pins σ H s):s.heap.FunFrames X.base X.outer:=by
 have all:∀(l:List Env),(∀b∈mR l,b∈X.fs)→X.s₀.heap.FunFrames X.base l→s.heap.FunFrames X.base l:=by
  intro l
  induction l with
  |nil=>intro _ _;trivial
  |cons env r ih=>
   intro hs hl
   obtain⟨hk,⟨L,o,hf,hn,ho,hd⟩,hr⟩:=hl
   have hL:L∈X.fs:=hs L (by unfold mR;rw[List.filterMap_cons,hf];exact List.mem_cons_self)
   obtain⟨sl,e⟩:=I.base.slot L o ho (I.ok.frf L hL) hL fun z=>I.ok.exfs L z hL
   exact⟨hk,⟨L,_,hf,hn,e,hd⟩,ih (fun b hb=>hs b (by unfold mR;rw[List.filterMap_cons,hf];exact List.mem_cons_of_mem _ hb)) hr⟩
 exact all X.outer (fun _ hb=>hb) I.ok.funs
theorem Inv.stack(I:Inv X pins σ H s):s.heap.FunFrames X.base X.stack:=by
 rcases I.ok.stk with e | ⟨e,hf⟩
 ·rw[e];exact I.funs
 ·rw[e]
  obtain⟨m,hn,_⟩:=I.loc
  refine .cons (by rw[I.ok.kind];decide) hf hn ?_ I.funs
  exact Heap.get?_none_of_le (Nat.le_trans I.ok.bsz I.ok.above)
theorem Inv.stkSub(I:Inv X pins σ H s):∀b∈mR X.stack,b∈X.env.locals::X.fs:=fun b hb=>by
 rcases I.ok.stk with e | ⟨e,hf⟩
 ·rw[e] at hb;exact List.mem_cons_of_mem _ hb
 ·rw[e] at hb
  unfold mR at hb
  rw[List.filterMap_cons,hf] at hb
  exact hb
theorem Inv.stkFree(I:Inv X pins σ H s):∀b∈mR X.stack,H b=none:=fun b hb=>by
 rcases List.mem_cons.mp (I.stkSub b hb) with e | hb
 ·rw[e];exact I.free
 ·obtain⟨_,o,ho,_⟩:=I.ok.funs.mem hb
  exact I.base.free b o ho (I.ok.frf b hb) fun z=>I.ok.exfs b z hb
theorem Inv.step{g':Array GenState}{t':Nat}{d':Drawn}{ch:List Addr}(I:Inv X pins σ H s)
 (Ez:∀b∈ch,(b∈X.ex∨X.s₀.heap.objs.size≤b)∧b≠X.env.locals∧(∀x c,X.env.cells.lookup x=some c→c≠b)∧∀p∈X.pn++pins,p.1≠b)
 (keep:∀b o,b≠X.env.locals→b∉X.fs→b∉ch→s.heap.get? b=some o→H b=none→h'.get? b=some o)
 (slot:∀b o,b≠X.env.locals→b∈X.fs→b∉ch→s.heap.get? b=some o→H b=none→∃sl,h'.get? b=some {o with slots:=sl})(free:∀b o,b∉ch→s.heap.get? b=some o→H b=none→H' b=none)
 (there:∀b o,b∉ch→s.heap.get? b=some o→∃o',h'.get? b=some o')
 (tups:∀b xs,H b=some (.tup xs)→H' b=some (.tup xs))(frzs:∀b o u,H b=some (.frz o u)→H' b=some (.frz o u))(tbls:∀b ps,H b=some (.tbl ps)→∃more,H' b=some (.tbl (ps++more)))
 (ns:∀m,s.heap.Ns X.env.locals m→h'.Ns X.env.locals m)(hok:HOk X.prog X.w H' h')(hg:AllBare g'):
 Inv X pins σ H' {s with heap:=h',gens:=g',drawn:=d',toks:=t'}:=by
 have Pz:∀b o,X.s₀.heap.get? b=some o→b≠X.env.locals:=fun b o e=>Nat.ne_of_lt (Nat.lt_of_lt_of_le (Heap.lt_size e) I.ok.above)
 have Mr:∀b o,X.s₀.heap.get? b=some o→b∉X.ex→b∉ch:=fun b o e hx hb=>by
  rcases(Ez b hb).1 with z | z
  ·exact hx z
  ·exact absurd (Nat.lt_of_lt_of_le (Heap.lt_size e) z) (Nat.lt_irrefl _)
 have cellK:∀x c,X.env.cells.lookup x=some c→∀v,s.heap.IsCell c v→h'.IsCell c v:=fun x c e v ⟨o,ho,hd⟩=>by
  have Li:c∉ch:=fun z=>(Ez c z).2.2.1 x c e rfl
  by_cases hc:c∈X.fs
  ·obtain⟨sl,q⟩:=slot c o (I.cne x c e) hc Li ho (I.freeC x c e)
   exact⟨_,q,hd⟩
  ·exact⟨o,keep c o (I.cne x c e) hc Li ho (I.freeC x c e),hd⟩
 refine⟨I.ok,I.os,hg,⟨fun b o e n hb hx=>?_,fun b o e n hb hx=>?_,fun b o e n hx=>?_,fun b o e hx=>?_,fun b xs e=>tups b xs (I.base.tups b xs e),fun b o xs e=>frzs b o xs (I.base.frzs b o xs e),fun b ps e=>?_⟩,?_,fun x c e=>?_,?_,fun x c e=>?_,fun p hp=>?_,hok,I.len⟩
 ·exact keep b o (Pz b o e) hb (Mr b o e hx) (I.base.keep b o e n hb hx) (I.base.free b o e n hx)
 ·obtain⟨sl,e1⟩:=I.base.slot b o e n hb hx
  obtain⟨JB,e2⟩:=slot b _ (Pz b o e) hb (Mr b o e hx) e1 (I.base.free b o e n hx)
  exact⟨JB,e2⟩
 ·obtain⟨o',e1⟩:=I.base.there b o e hx
  exact free b o' (Mr b o e hx) e1 (I.base.free b o e n hx)
 ·obtain⟨o',e1⟩:=I.base.there b o e hx
  exact there b o' (Mr b o e hx) e1
 ·obtain⟨m1,e1⟩:=I.base.tbls b ps e
  obtain⟨m2,e2⟩:=tbls b _ e1
  exact⟨m1++m2,by rw[e2,Array.append_assoc]⟩
 ·obtain⟨m,hn,hl⟩:=I.loc
  refine⟨m,ns m hn,fun i x v e1 e2 e3=>?_⟩
  obtain⟨u,r,l⟩:=hl i x v e1 e2 e3
  refine⟨u,r,?_⟩
  rcases l with l | ⟨k,c,e,z⟩
  ·exact .inl l
  ·exact .inr ⟨k,c,e,cellK x c e _ z⟩
 ·obtain⟨v,z⟩:=I.cell x c e
  exact⟨v,cellK x c e v z⟩
 ·obtain⟨m,⟨o,_,_,ho,_⟩,_⟩:=I.loc
  exact free _ o (fun z=>(Ez _ z).2.1 rfl) ho I.free
 ·obtain⟨v,o,ho,hd⟩:=I.cell x c e
  exact free c o (fun z=>(Ez c z).2.2.1 x c e rfl) ho (I.freeC x c e)
 ·obtain⟨e,n,ne,nf,d⟩:=I.pin p hp
  have Li:p.1∉ch:=fun z=>(Ez p.1 z).2.2.2 p hp rfl
  exact⟨keep p.1 p.2 ne nf Li e n,free p.1 p.2 Li e n,ne,nf,d⟩
theorem Inv.un{t':Nat}(I:Inv X pins σ H s)(u:Un X.fs [] H H' s.heap h')(hok:HOk X.prog X.w H' h'):Inv X pins σ H' {s with heap:=h',toks:=t'}:=by
 obtain⟨m,⟨o,es,ep,ho,r⟩,_⟩:=id I.loc
 obtain⟨sl,hL⟩:=u.any ho I.free (by simp)
 exact I.step (g':=s.gens) (d':=s.drawn) (ch:=[]) (fun _ z=>nomatch z) (fun b o _ hb _ e n=>u.keep b o e n hb (by simp)) (fun b o _ hb _ e n=>u.slot b o e n hb (by simp)) (fun b o _ e n=>u.free b o e n (by simp)) (fun b o _ e=>u.there b o e (by simp)) u.tups u.frzs u.tbls (fun m' hm=>by
  obtain⟨o',JO,ES,qk,r'⟩:=hm
  rw[ho] at qk;cases qk
  exact⟨_,JO,ES,hL,r'⟩) hok I.bare
theorem Inv.call{g':Array GenState}{t':Nat}{d':Drawn}{ch:List Addr}(I:Inv X pins σ H s)(u:Un (mR X.stack) ch H H' s.heap h')(hok:HOk X.prog X.w H' h')(hg:AllBare g')
 (Ez:∀b∈ch,(b∈X.ex∨X.s₀.heap.objs.size≤b)∧b≠X.env.locals∧(∀x c,X.env.cells.lookup x=some c→c≠b)∧∀p∈X.pn++pins,p.1≠b):
 Inv X pins σ H' {s with heap:=h',gens:=g',drawn:=d',toks:=t'}:=by
 obtain⟨m,⟨o,es,ep,ho,r⟩,_⟩:=id I.loc
 obtain⟨sl,hL⟩:=u.any ho I.free fun z=>(Ez _ z).2.1 rfl
 exact I.step (ch:=ch) Ez (fun b o hL hb hc e n=>u.keep b o e n (fun z=>(List.mem_cons.mp (I.stkSub b z)).elim hL hb) hc) (fun b o _ _ hc e n=>u.any e n hc) (fun b o hc e n=>u.free b o e n hc) (fun b o hc e=>u.there b o e hc) u.tups u.frzs u.tbls (fun m' hm=>by
  obtain⟨o',JO,ES,qk,r'⟩:=hm
  rw[ho] at qk;cases qk
  exact⟨_,JO,ES,hL,r'⟩) hok hg
theorem Inv.turned{t':Nat}{it:Addr}(I:Inv X pins σ H s)(k:∀b o,b≠it→s.heap.get? b=some o→h'.get? b=some o)(hn:H it=none)(hL:it≠X.env.locals)
 (h1:it∈X.ex∨X.s₀.heap.objs.size≤it)(h2:∀x c,X.env.cells.lookup x=some c→c≠it)(h3:∀p∈X.pn++pins,p.1≠it):Inv X pins σ H {s with heap:=h',toks:=t'}:=by
 have G7:∀b u,H b=some u→b≠it:=fun b u e z=>by rw[z,hn] at e;cases e
 refine I.step (g':=s.gens) (d':=s.drawn) (ch:=[it]) (fun b hb=>?_) (fun b o _ _ hc e _=>k b o (fun z=>hc (by simp[z])) e) (fun b o _ _ hc e _=>⟨o.slots,k b o (fun z=>hc (by simp[z])) e⟩) (fun _ _ _ _ n=>n)
  (fun b o hc e=>⟨o,k b o (fun z=>hc (by simp[z])) e⟩) (fun _ _ e=>e) (fun _ _ _ e=>e) (fun b ps e=>⟨#[],by rw[e];simp⟩) (fun m hm=>?_) (fun b u e=>?_) I.bare
 ·have e:b=it:=by simpa using hb
  subst e
  exact⟨h1,hL,h2,h3⟩
 ·obtain⟨o,es,ep,ho,r⟩:=hm
  exact⟨o,es,ep,k _ o (Ne.symm hL) ho,r⟩
 ·refine(I.hok b u e).stay (fun c v hc q=>k c v ?_ q) (fun _ q=>q) fun _ _ q=>q
  rcases hc with z | z
  ·rw[z];exact G7 b u e
  ·exact G7 c _ z
theorem Inv.tok(I:Inv X pins σ H s)(t:Nat):Inv X pins σ H {s with toks:=t}:=I.un (h':=s.heap) (t':=t) Un.refl I.hok
theorem Inv.kept{t':Nat}(I:Inv X pins σ H s)(k:∀b u,s.heap.get? b=some u→h'.get? b=some u):Inv X pins σ H {s with heap:=h',toks:=t'}:=I.un (Un.kept k) (I.hok.kept k)
theorem Inv.laid{a:Addr}{o:HO}{t':Nat}(I:Inv X pins σ H s)(k:∀b u,s.heap.get? b=some u→h'.get? b=some u)(hp:s.heap.objs.size≤a)(new:ObjOk X.prog X.w (upd H a o) h' a o):
 Inv X pins σ (upd H a o) {s with heap:=h',toks:=t'}:=I.un (Un.laid k hp (I.hok.fresh hp)) (I.hok.laid k hp new)
theorem Inv.write{x e:Addr}{o:HO}{t':Nat}(I:Inv X pins σ H s)(mu:J5 (H x))(he:e=x∨H e=some (.own x))(k:∀b u,b≠e→s.heap.get? b=some u→h'.get? b=some u)(Bh:∃u,h'.get? e=some u)
 (new:ObjOk X.prog X.w (upd H x o) h' x o):Inv X pins σ (upd H x o) {s with heap:=h',toks:=t'}:=I.un (Un.write mu he k Bh) (I.hok.write mu he k Bh new)
theorem Inv.pins_of{Hc:List (Addr×Obj)}(I:Inv X pins σ H s)(h:∀p∈Hc,s.heap.get? p.1=some p.2∧H p.1=none∧p.1≠X.env.locals∧p.1∉X.fs∧∀v,p.2.data≠ .cell v):Inv X Hc σ H s:=
 ⟨I.ok,I.os,I.bare,I.base,I.loc,I.cell,I.free,I.freeC,fun p hp=>(List.mem_append.mp hp).elim (fun z=>I.pin p (List.mem_append_left _ z)) (h p),I.hok,I.len⟩
theorem uO{N:List Str}(hN:N.Nodup){i j:Nat}{x:Str}(a:N[i]? =some x)(b:N[j]? =some x):i=j:=by
 obtain⟨h1,e1⟩:=List.getElem?_eq_some_iff.mp a
 obtain⟨h2,e2⟩:=List.getElem?_eq_some_iff.mp b
 exact(List.getElem_inj hN).mp (e1.trans e2.symm)
theorem rf{M:Model}{A:Around}{E:Value→Shared→Prop}{i:Nat}{x:Str}{v:V}{u:Value}{Q:Unit→Shared→Prop}(I:Inv X pins σ H s)(hN:X.N.Nodup)(hi:X.N[i]? =some x)(hx:Loc X.env.scope x)(r:RelV v u)
 (h:∀s',Inv X pins (σ.set i (some v)) H s'→(∃a,Heap.SameBut a s.heap s'.heap∧(a=X.env.locals∨X.env.cells.lookup x=some a))→Q () s')(hf:X.fn x=true∨X.env.scope.names.lookup x=some .local:=by first | exact .inl rfl | exact .inr rfl | assumption):wpAny M A (storeName X.env x u) Q E s:=by
 obtain⟨m,hn,hl⟩:=id I.loc
 have Nb:(X.env.scope.kind== .class||(X.env.scope.kind== .module&&X.env.locals !=X.env.globals))=false:=by rw[I.ok.kind];rfl
 have Pc:i<σ.length:=by rw[I.len];exact(List.getElem?_eq_some_iff.mp hi).1
 have cne:=I.cne
 have tracked:∀{a:Addr}{h':Heap},(∃o,s.heap.get? a=some o∧H a=none)→Heap.SameBut a s.heap h'→HOk X.prog X.w H h':=fun {a h'} ha hs b ob e=>by
  obtain⟨_,_,GZ⟩:=ha
  refine(I.hok b ob e).stay (fun c w' hc q=>(hs.2 c ?_).trans q) (fun _ q=>q) fun _ _ q=>q
  rintro rfl
  rcases hc with rfl | hc
  ·rw[GZ] at e;cases e
  ·rw[GZ] at hc;cases hc
 rcases hx with hk | hk
 ·refine wpAny_storeName_local hk hn (fun h' zW hs=>?_) Nb
  obtain⟨oL,_,_,EA,_⟩:=id hn
  refine h _ ⟨I.ok,I.os,I.bare,⟨fun b o e n hb hx=>?_,fun b o e n hb hx=>?_,I.base.free,fun b o e hx=>?_,I.base.tups,I.base.frzs,I.base.tbls⟩,⟨_,zW,fun j y v' e1 e2 e3=>?_⟩,fun y c e=>?_,I.free,I.freeC,fun p hp=>?_,tracked ⟨oL,EA,I.free⟩ hs,by simpa using I.len⟩ ⟨_,hs, .inl rfl⟩
  ·exact(hs.2 b (Nat.ne_of_lt (Nat.lt_of_lt_of_le (Heap.lt_size e) I.ok.above))).trans (I.base.keep b o e n hb hx)
  ·obtain⟨sl,e1⟩:=I.base.slot b o e n hb hx
   exact⟨sl,(hs.2 b (Nat.ne_of_lt (Nat.lt_of_lt_of_le (Heap.lt_size e) I.ok.above))).trans e1⟩
  ·obtain⟨o',e1⟩:=I.base.there b o e hx
   exact⟨o',(hs.2 b (Nat.ne_of_lt (Nat.lt_of_lt_of_le (Heap.lt_size e) I.ok.above))).trans e1⟩
  ·by_cases hj:j=i
   ·subst hj
    rw[hi] at e1;cases e1
    rw[List.getElem?_set_self Pc] at e2
    cases e2
    exact⟨u,r, .inl ⟨hk,by simp⟩⟩
   ·rw[List.getElem?_set_ne (Ne.symm hj)] at e2
    obtain⟨u',r',q⟩:=hl j y v' e1 e2 e3
    refine⟨u',r',?_⟩
    rcases q with⟨k,e⟩ | ⟨k,c,e,z⟩
    ·refine .inl ⟨k,?_⟩
     have:y≠x:=fun e=>hj (uO hN e1 (e▸hi))
     simp[this,e]
    ·exact .inr ⟨k,c,e,z.sameBut hs (cne y c e)⟩
  ·obtain⟨w',z⟩:=I.cell y c e
   exact⟨w',z.sameBut hs (cne y c e)⟩
  ·obtain⟨e,n,ne,nf,d⟩:=I.pin p hp
   exact⟨(hs.2 p.1 ne).trans e,n,ne,nf,d⟩
 ·have Nj:X.fn x=true:=by
   rcases hf with z | z
   ·exact z
   ·rw[z] at hk;cases hk
  obtain⟨c,hc⟩:=I.ok.has x (.inl hk)
  obtain⟨w',z⟩:=I.cell x c hc
  refine wpAny_storeName_cell I.ok.kind hk hc z (fun h' zP hs=>?_)
  obtain⟨oc,Mi,NA⟩:=id z
  refine h {s with heap:=h'} ⟨I.ok,I.os,I.bare,⟨fun b o e n hb hx=>?_,fun b o e n hb hx=>?_,I.base.free,fun b o e hx=>?_,I.base.tups,I.base.frzs,I.base.tbls⟩,⟨m,hn.sameBut hs (Ne.symm (cne x c hc)),fun j y v' e1 e2 e3=>?_⟩,fun y c' e=>?_,I.free,I.freeC,fun p hp=>?_,tracked ⟨oc,Mi,I.freeC x c hc⟩ hs,by simpa using I.len⟩ ⟨c,hs, .inr hc⟩
  ·exact(hs.2 b (Nat.ne_of_lt (Nat.lt_of_lt_of_le (Heap.lt_size e) (I.ok.cab x c Nj hc)))).trans (I.base.keep b o e n hb hx)
  ·obtain⟨sl,e1⟩:=I.base.slot b o e n hb hx
   exact⟨sl,(hs.2 b (Nat.ne_of_lt (Nat.lt_of_lt_of_le (Heap.lt_size e) (I.ok.cab x c Nj hc)))).trans e1⟩
  ·obtain⟨o',e1⟩:=I.base.there b o e hx
   exact⟨o',(hs.2 b (Nat.ne_of_lt (Nat.lt_of_lt_of_le (Heap.lt_size e) (I.ok.cab x c Nj hc)))).trans e1⟩
  ·by_cases hj:j=i
   ·subst hj
    rw[hi] at e1;cases e1
    rw[List.getElem?_set_self Pc] at e2
    cases e2
    exact⟨u,r, .inr ⟨.inl hk,c,hc,zP⟩⟩
   ·rw[List.getElem?_set_ne (Ne.symm hj)] at e2
    obtain⟨u',r',q⟩:=hl j y v' e1 e2 e3
    refine⟨u',r',?_⟩
    rcases q with q | ⟨k,c',e,z'⟩
    ·exact .inl q
    ·refine .inr ⟨k,c',e,z'.sameBut hs ?_⟩
     rintro rfl
     exact hj (uO hN e1 (I.ok.inj _ _ _ e hc▸hi))
  ·by_cases Mc:c'=c
   ·subst Mc;exact⟨_,zP⟩
   ·obtain⟨w2,z2⟩:=I.cell y c' e
    exact⟨w2,z2.sameBut hs Mc⟩
  ·obtain⟨e,n,ne,nf,d⟩:=I.pin p hp
   refine⟨(hs.2 p.1 ?_).trans e,n,ne,nf,d⟩
   intro q
   rw[q,Mi] at e
   have q':oc=p.2:=Option.some.inj e
   exact d w' (by rw[←q'];exact NA)
theorem vD{M:Model}{A:Around}{E:Value→Shared→Prop}{i:Nat}{x:Str}{v:V}{u:Value}{Q:Unit→Shared→Prop}(I:Inv X pins σ H s)(hN:X.N.Nodup)(hi:X.N[i]? =some x)(hx:Loc X.env.scope x)(r:RelV v u)
 (h:∀s',Inv X pins (σ.set i (some v)) H s'→Q () s')(hf:X.fn x=true∨X.env.scope.names.lookup x=some .local:=by first | exact .inl rfl | exact .inr rfl | assumption):wpAny M A (storeName X.env x u) Q E s:=
 rf I hN hi hx r (fun s' I' _=>h s' I') hf
theorem Inv.call'{s':Shared}{ch:List Addr}(I:Inv X pins σ H s)(ho:s'.os=s.os)(u:Un (mR X.stack) ch H H' s.heap s'.heap)(hok:HOk X.prog X.w H' s'.heap)(hg:AllBare s'.gens)
 (Ez:∀b∈ch,(b∈X.ex∨X.s₀.heap.objs.size≤b)∧b≠X.env.locals∧(∀x c,X.env.cells.lookup x=some c→c≠b)∧∀p∈X.pn++pins,p.1≠b):Inv X pins σ H' s':=by
 obtain⟨h',g',d',t',o'⟩:=s'
 have e:o'=s.os:=ho
 subst e
 exact I.call (g':=g') (t':=t') (d':=d') u hok hg Ez
end
abbrev XK:=Value→Option Addr→Hp→Prop
abbrev St:=List (Option V)
abbrev VK:=V→Hp→Prop
abbrev TE:=St→Hp→VK→Prop
abbrev TT:=St→Hp→(Bool→Hp→Prop)→Prop
abbrev TA:=St→Hp→(List V→Hp→Prop)→Prop
structure Ends where
 nx:St→Hp→Prop
 rt:VK
 bk:St→Hp→Prop:=fun _ _=>False
 ct:St→Hp→Prop:=fun _ _=>False
abbrev TS:=Ends→St→Hp→Prop
def EP(X:Cx)(pins:List (Addr×Obj))(σ:St)(Q:VK)(u:Value)(s':Shared):Prop:=∃v H',Inv X pins σ H' s'∧RelV v u∧Q v H'
def TP(X:Cx)(pins:List (Addr×Obj))(σ:St)(Q:Bool→Hp→Prop)(b:Bool)(s':Shared):Prop:=∃H',Inv X pins σ H' s'∧Q b H'
def AP(X:Cx)(pins:List (Addr×Obj))(σ:St)(Q:List V→Hp→Prop)(us:List Value)(s':Shared):Prop:=∃vs H',Inv X pins σ H' s'∧Vals vs us∧Q vs H'
def SP(X:Cx)(pins:List (Addr×Obj))(D:Ends)(f:Flow)(s':Shared):Prop:=
 match f with
 | .next=>∃σ' H',Inv X pins σ' H' s'∧D.nx σ' H'
 | .brk=>∃σ' H',Inv X pins σ' H' s'∧D.bk σ' H'
 | .cont=>∃σ' H',Inv X pins σ' H' s'∧D.ct σ' H'
 | .ret u=>∃v σ' H',Inv X pins σ' H' s'∧RelV v u∧D.rt v H'
def PE(X:Cx)(e:Expr)(t:TE):Prop:=
 ∀(pins:List (Addr×Obj)) (s:Shared) (σ:St) (H:Hp) (Q:VK),Inv X pins σ H s→t σ H Q→wpAny (model X.prog X.w) X.A (eval e X.env) (EP X pins σ Q) X.xe s
def PT(X:Cx)(e:Expr)(t:TT):Prop:=
 ∀(pins:List (Addr×Obj)) (s:Shared) (σ:St) (H:Hp) (Q:Bool→Hp→Prop),Inv X pins σ H s→t σ H Q→wpAny (model X.prog X.w) X.A (isTrue e X.env (eval e X.env)) (TP X pins σ Q) X.xe s
def PW(X:Cx)(e:Expr)(t:TT):Prop:=
 ∀(whole:Sem Value) (pins:List (Addr×Obj)) (s:Shared) (σ:St) (H:Hp) (Q:Bool→Hp→Prop),Inv X pins σ H s→t σ H Q→wpAny (model X.prog X.w) X.A (isTrue e X.env whole) (TP X pins σ Q) X.xe s
theorem PW.pt{X:Cx}{e:Expr}{t:TT}(h:PW X e t):PT X e t:=h _
def PA(X:Cx)(es:List Expr)(t:TA):Prop:=
 ∀(pos:Pos) (pins:List (Addr×Obj)) (s:Shared) (σ:St) (H:Hp) (Q:List V→Hp→Prop),Inv X pins σ H s→t σ H Q→wpAny (model X.prog X.w) X.A (spliced (backTo pos (starEach es X.env))) (AP X pins σ Q) X.xe s
def PS(X:Cx)(st:Stmt)(t:TS):Prop:=
 ∀(pins:List (Addr×Obj)) (s:Shared) (σ:St) (H:Hp) (D:Ends),Inv X pins σ H s→t D σ H→wpAny (model X.prog X.w) X.A (exec st X.env) (SP X pins D) X.xe s
def PSs(X:Cx)(st:List Stmt)(t:TS):Prop:=
 ∀(pins:List (Addr×Obj)) (s:Shared) (σ:St) (H:Hp) (D:Ends),Inv X pins σ H s→t D σ H→wpAny (model X.prog X.w) X.A (execs st X.env) (SP X pins D) X.xe s
theorem b5{α:Type}{t:Sem α}{Q Q':α→Shared→Prop}{M:Model}{A:Around}{E:Value→Shared→Prop}{s:Shared}(h:wpAny M A t Q E s)(hQ:∀a s,Q a s→Q' a s):wpAny M A t Q' E s:=wpAny_mono h hQ fun _ _ x=>x
section
variable{X:Cx}
theorem bin{a b:Expr}{ta tb:TE}(ha:PE X a ta)(hb:PE X b tb){pins:List (Addr×Obj)}{s:Shared}{σ:St}{H:Hp}{R:V→V→Hp→Prop}(I:Inv X pins σ H s)(h:ta σ H fun x H1=>tb σ H1 fun y H2=>R x y H2)
 {α:Type}{Q:α→Shared→Prop}{f:Value→Value→Sem α}
 (hf:∀v u s2 x y H2,Inv X pins σ H2 s2→RelV x v→RelV y u→R x y H2→wpAny (model X.prog X.w) X.A (f v u) Q X.xe s2):
 wpAny (model X.prog X.w) X.A (eval a X.env) (fun v s₁=>wpAny (model X.prog X.w) X.A (eval b X.env) (fun u s₂=>wpAny (model X.prog X.w) X.A (f v u) Q X.xe s₂) X.xe s₁) X.xe s:=by
 refine b5 (ha pins s σ H _ I h) fun v s1 ⟨x,H1,I1,r1,q1⟩=>?_
 refine b5 (hb pins s1 σ H1 _ I1 q1) fun u s2 ⟨y,H2,I2,r2,q2⟩=>?_
 exact hf v u s2 x y H2 I2 r1 r2 q2
def o_(i:Nat):TE:=fun σ H Q=>∃v,σ[i]? =some (some v)∧Q v H
def tC(v:V):TE:=fun _ H Q=>Q v H
theorem Ji{i:Nat}{x:Str}{pos:Pos}(hN:X.N[i]? =some x)(hv:ML X.env.scope x)(hd:(x==("__debug__":Str))=false:=by decide)(v3:(x==("__classdict__":Str))=false:=by decide):PE X (.Name x pos) (o_ i):=by
 intro pins s σ H Q I h
 obtain⟨v,e,h⟩:=h
 obtain⟨m,hn,hl⟩:=I.loc
 obtain⟨u,r,l⟩:=hl i x v hN e hv
 have fin:EP X pins σ Q u s:=⟨v,H,I,r,h⟩
 rcases l with⟨hk,hm⟩ | ⟨hk,c,hc,GW⟩
 ·exact wpAny_Name (wpAny_loadName_local I.ok.kind hk hn hm fin) hd
 ·rcases hk with hk | hk
  ·exact wpAny_Name (wpAny_loadName_cell I.ok.kind hk hc GW fin) hd
  ·exact wpAny_Name (wpAny_loadName_free I.ok.kind hk hc GW fin v3) hd
theorem Ja{i j pos}:PE X (.Constant (.int i) j pos) (tC (.int i)):=fun _ _ _ H _ I h=>wpAny_Constant_int ⟨.int i,H,I.tok _,⟨_,rfl⟩,h⟩
theorem Lx{b j pos}:PE X (.Constant (.bool b) j pos) (tC (.bl b)):=fun _ _ _ H _ I h=>Constant_bool ⟨.bl b,H,I,rfl,h⟩
theorem Jb{j pos}:PE X (.Constant .none j pos) (tC .non):=fun _ _ _ H _ I h=>Constant_none ⟨.non,H,I,rfl,h⟩
theorem Jf{x j pos}:PE X (.Constant (.str x) j pos) (tC (.str x)):=fun _ _ _ H _ I h=>Calls.Constant_str ⟨.str x,H,I.tok _,⟨_,rfl⟩,h⟩
def Gl(X:Cx)(x:Str):Prop:=X.env.kindOf x=some .globalImplicit
theorem yH{E:Value→Shared→Prop}{pins:List (Addr×Obj)}{s:Shared}{σ:St}{H:Hp}{x:Str}{u:Value}{pos:Pos}{Q:Value→Shared→Prop}(I:Inv X pins σ H s)(hg:Gl X x)(hm:X.mg x=some u)(h:Q u s)
 (hd:(x==("__debug__":Str))=false:=by decide):wpAny (model X.prog X.w) X.A (eval (.Name x pos) X.env) Q E s:=
 Calls.Name_function_global I.ok.kind hg (Calls.loadGlobal_global (by rw[I.ok.glob];exact I.mod.glob.keeps I.bk) hm h) hd
theorem dZ{E:Value→Shared→Prop}{pins:List (Addr×Obj)}{s:Shared}{σ:St}{H:Hp}{x:Str}{u:Value}{pos:Pos}{Q:Value→Shared→Prop}(I:Inv X pins σ H s)(hg:Gl X x)(hm:X.mg x=none)(hv:bootBuiltins x=some u)(h:Q u s)
 (hn:x≠"__name__":=by decide)(hd:(x==("__debug__":Str))=false:=by decide):wpAny (model X.prog X.w) X.A (eval (.Name x pos) X.env) Q E s:=by
 obtain⟨mb,h1,h2⟩:=I.mod.blt
 exact Calls.Name_function_global I.ok.kind hg (Calls.loadGlobal_builtin (by rw[I.ok.glob];exact I.mod.glob.keeps I.bk) hm (by rw[I.ok.blt];exact h1.keeps I.bk) ((h2 x hn).trans hv) h) hd
theorem FU{x:Str}{v:V}{u:Value}{pos:Pos}(hg:Gl X x)(hm:X.mg x=some u)(r:RelV v u)(hd:(x==("__debug__":Str))=false:=by decide):PE X (.Name x pos) (tC v):=
 fun _ _ _ H _ I h=>yH I hg hm ⟨v,H,I,r,h⟩ hd
theorem FP{x:Str}{v:V}{u:Value}{pos:Pos}(hg:Gl X x)(hm:X.mg x=none)(hv:bootBuiltins x=some u)(r:RelV v u)(hn:x≠"__name__":=by decide)(hd:(x==("__debug__":Str))=false:=by decide):PE X (.Name x pos) (tC v):=
 fun _ _ _ H _ I h=>dZ I hg hm hv ⟨v,H,I,r,h⟩ hn hd
variable{a b:Expr}{ta tb:TE}{pos:Pos}
def PC(X:Cx)(op:CmpOp)(a b:Expr)(t:TE):Prop:=
 ∀(pins:List (Addr×Obj)) (s:Shared) (σ:St) (H:Hp) (Q:VK),Inv X pins σ H s→t σ H Q→
  wpAny (model X.prog X.w) X.A (eval a X.env) (fun v s₁=>wpAny (model X.prog X.w) X.A (eval b X.env) (fun u s₂=>wpAny (model X.prog X.w) X.A (compareOp op v u) (EP X pins σ Q) X.xe s₂) X.xe s₁) X.xe s
theorem CQ(b:Expr){op:CmpOp}(h:op≠ .In)(h2:op≠ .NotIn):behindInMarks op b=false:=by
 have e1:(op==CmpOp.In)=false:=by cases op<;>first | rfl | exact absurd rfl h
 have e2:(op==CmpOp.NotIn)=false:=by cases op<;>first | rfl | exact absurd rfl h2
 cases b<;>simp[behindInMarks,e1,e2]
theorem I_{op:CmpOp}{t:TE}(h:PC X op a b t)(h1:behindInMarks op b=false:=by first | exact CQ _ (by decide) (by decide) | rfl):PE X (.Compare a [op] [b] pos) t:=fun pins s σ H Q I hw=>wpAny_Compare1 (h pins s σ H Q I hw) h1
variable{tA dn:TT}{rest:List Expr}
def RB(t u:TT):TT:=fun σ H Q=>t σ H fun c H1=>if c=true then Q true H1 else u σ H1 Q
def Ox(t:TT):TT:=fun σ H Q=>t σ H fun c H1=>Q (!c) H1
theorem Jq(ha:PT X a tA):PW X (.BoolOp .Or [a] pos) tA:=by
 intro wh pins s σ H Q I h
 refine isTrue_or (b5 (ha pins s σ H Q I h) fun c s1 e=>?_)
 cases c with
 |false=>exact isTrue_or_nil e
 |true=>exact e
theorem LC(ha:PT X a tA)(hb:PW X (.BoolOp .Or (b::rest) pos) dn):PW X (.BoolOp .Or (a::b::rest) pos) (RB tA dn):=by
 intro wh pins s σ H Q I h
 refine isTrue_or (b5 (ha pins s σ H _ I h) fun c s1 ⟨H1,I1,q1⟩=>?_)
 cases c with
 |true=>exact⟨H1,I1,q1⟩
 |false=>exact hb wh pins s1 σ H1 Q I1 q1
theorem Jo(ha:PT X a tA):PT X (.UnaryOp .Not a pos) (Ox tA):=by
 intro pins s σ H Q I h
 exact isTrue_not (ha pins s σ H (fun c H1=>Q (!c) H1) I h)
def LU(ta tb:TE):TE:=fun σ H Q=>ta σ H fun x H1=>∃c,x= .bl c∧if c=true then tb σ H1 Q else Q (.bl false) H1
def LY(ta:TE):TE:=fun σ H Q=>ta σ H fun x H1=>∃c,x= .bl c∧Q (.bl (!c)) H1
theorem Jd{op}{t:TE}(h:PE X a t):PE X (.BoolOp op [a] pos) t:=fun pins s σ H Q I hw=>BoolOp_one (h pins s σ H Q I hw)
theorem I9(ha:PE X a ta)(hb:PE X (.BoolOp .And (b::rest) pos) tb):PE X (.BoolOp .And (a::b::rest) pos) (LU ta tb):=by
 intro pins s σ H Q I h
 refine BoolOp_and (b5 (ha pins s σ H _ I h) fun v s1 ⟨x,H1,I1,r1,q1⟩=>?_)
 obtain⟨c,rfl,q1⟩:=q1
 cases r1
 refine wpAny_truthy_bool ?_
 cases c with
 |true=>exact hb pins s1 σ H1 Q I1 q1
 |false=>exact⟨.bl false,H1,I1,rfl,q1⟩
theorem Jc(ha:PE X a ta):PE X (.UnaryOp .Not a pos) (LY ta):=by
 intro pins s σ H Q I h
 refine UnaryOp_ (b5 (ha pins s σ H _ I h) fun v s1 ⟨x,H1,I1,r1,q1⟩=>?_)
 obtain⟨c,rfl,q1⟩:=q1
 cases r1
 exact not_of (wpAny_truthy_bool ⟨.bl (!c),H1,I1,rfl,q1⟩)
end
def SqL(K:W.Frag)(H:Hp)(a:Addr)(xs:List V):Prop:=
 Rd H a (.lst xs)∨
  ∃(o:Obj) (aD:Array Value) (n:Nat),K.lookup a=some o∧o.cls= .type "list"∧o.dict=none∧o.data= .seq aD n∧aD.size≤sizeLine∧Vals xs aD.toList
def SqT(K:W.Frag)(H:Hp)(a:Addr)(xs:List V):Prop:=
 Rd H a (.tup xs)∨
  ∃(o:Obj) (aD:Array Value) (n:Nat),K.lookup a=some o∧o.cls= .type "tuple"∧o.data= .seq aD n∧aD.size≤sizeLine∧Vals xs aD.toList
def MM:Value→Option V
 | .none=>some .non
 | .bool b=>some (.bl b)
 | .int i _=>some (.int i)
 | .str x _=>some (.str x)
 | .bytes b _=>some (.byt b)
 | .float b _=>some (.flt b)
 | .ref a=>some (.ref a)
 | .type n=>some (.ty n)
 |_=>none
theorem RelV.abs{x:V}{u:Value}(r:RelV x u):MM u=some x:=by
 cases x with
 |non=>cases r;rfl
 |bl _=>cases r;rfl
 |int _=>obtain⟨t,rfl⟩:=r;rfl
 |str _=>obtain⟨t,rfl⟩:=r;rfl
 |byt _=>obtain⟨t,rfl⟩:=r;rfl
 |flt _=>obtain⟨t,rfl⟩:=r;rfl
 |ref _=>cases r;rfl
 |ty _=>cases r;rfl
theorem RelV.inj{x y:V}{u:Value}(r:RelV x u)(q:RelV y u):x=y:=Option.some.inj (r.abs.symm.trans q.abs)
theorem Vals.inj:∀{xs ys:List V}{us:List Value},Vals xs us→Vals ys us→xs=ys
 |_,_,_, .nil, .nil=>rfl
 |_,_,_, .cons r t, .cons r' t'=>by rw[r.inj r',Vals.inj t t']
section
variable{X:Cx}{pins:List (Addr×Obj)}{σ:St}{H:Hp}{s:Shared}{a:Addr}{xs ys:List V}
theorem SqL.of{K:W.Frag}(h:H a=some (.lst xs)):SqL K H a xs:= .inl (.inl h)
theorem SqT.of{K:W.Frag}(h:H a=some (.tup xs)):SqT K H a xs:= .inl (.inl h)
theorem Inv.list(I:Inv X pins σ H s)(h:SqL X.K H a xs):∃aD:List Value,Vals xs aD∧PlainL s.heap a aD.toArray∧xs.length≤sizeLine:=by
 rcases h with h | ⟨o,aD,n,hk,hc,hd,hs,hz,r⟩
 ·obtain⟨z,aD,n,r,e⟩:=h.ok I.hok
  exact⟨aD,r,⟨_,n,e,rfl,rfl,rfl⟩,z⟩
 ·refine⟨aD.toList,r,⟨o,n,I.kIn a o hk,hc,hd,by simpa using hs⟩,?_⟩
  have e:=r.length
  simp only[Array.length_toList] at e
  omega
theorem Inv.tuple(I:Inv X pins σ H s)(h:SqT X.K H a xs):∃aD:List Value,Vals xs aD∧IsTup s.heap a aD.toArray∧xs.length≤sizeLine:=by
 rcases h with h | ⟨o,aD,n,hk,hc,hs,hz,r⟩
 ·obtain⟨z,aD,r,p⟩:=h.ok I.hok
  exact⟨aD,r,p,z⟩
 ·refine⟨aD.toList,r,⟨o,I.kIn a o hk,hc,n,by simpa using hs⟩,?_⟩
  have e:=r.length
  simp only[Array.length_toList] at e
  omega
theorem Inv.list_inj(I:Inv X pins σ H s)(h:SqL X.K H a xs)(h':SqL X.K H a ys):xs=ys:=by
 obtain⟨aD,r,⟨o,n,e,_,_,d⟩,_⟩:=I.list h
 obtain⟨its',r',⟨o',n',e',_,_,d'⟩,_⟩:=I.list h'
 rw[e] at e';cases e'
 rw[d] at d'
 injection d' with d1 _
 have:aD=its':=by simpa using congrArg Array.toList d1
 subst this
 exact r.inj r'
theorem Inv.tuple_inj(I:Inv X pins σ H s)(h:SqT X.K H a xs)(h':SqT X.K H a ys):xs=ys:=by
 obtain⟨aD,r,⟨o,e,_,n,d⟩,_⟩:=I.tuple h
 obtain⟨its',r',⟨o',e',_,n',d'⟩,_⟩:=I.tuple h'
 rw[e] at e';cases e'
 rw[d] at d'
 injection d' with d1 _
 have:aD=its':=by simpa using congrArg Array.toList d1
 subst this
 exact r.inj r'
end
abbrev Cx.wish(X:Cx)(E:Value→Shared→Prop):Cx:={X with xe:=E}
abbrev Cx.nox(X:Cx):Cx:=X.wish fun _ _=>False
theorem Cx.Ok.wish{X:Cx}(ok:X.Ok)(E:Value→Shared→Prop):(X.wish E).Ok:=
 ⟨ok.mod,ok.kind,ok.glob,ok.blt,ok.above,ok.inj,ok.has,ok.cab,ok.hd,ok.frames,ok.stk,ok.exf,ok.bs,ok.bsz,ok.noex,ok.exfs,ok.funs,ok.frf⟩
theorem Cx.Ok.unwish{X:Cx}{E:Value→Shared→Prop}(ok:(X.wish E).Ok):X.Ok:=
 ⟨ok.mod,ok.kind,ok.glob,ok.blt,ok.above,ok.inj,ok.has,ok.cab,ok.hd,ok.frames,ok.stk,ok.exf,ok.bs,ok.bsz,ok.noex,ok.exfs,ok.funs,ok.frf⟩
section
variable{X:Cx}{pins:List (Addr×Obj)}{σ:St}{H:Hp}{s:Shared}{E:Value→Shared→Prop}
theorem Inv.wish(I:Inv X pins σ H s)(E:Value→Shared→Prop):Inv (X.wish E) pins σ H s:=⟨I.ok.wish E,I.os,I.bare,I.base,I.loc,I.cell,I.free,I.freeC,I.pin,I.hok,I.len⟩
theorem Inv.unwish(I:Inv (X.wish E) pins σ H s):Inv X pins σ H s:=⟨I.ok.unwish,I.os,I.bare,I.base,I.loc,I.cell,I.free,I.freeC,I.pin,I.hok,I.len⟩
theorem SP.unwish{D:Ends}{f:Flow}{s':Shared}(h:SP (X.wish E) pins D f s'):SP X pins D f s':=by
 cases f with
 |next=>obtain⟨σ',H',I,q⟩:=h;exact⟨σ',H',I.unwish,q⟩
 |brk=>obtain⟨σ',H',I,q⟩:=h;exact⟨σ',H',I.unwish,q⟩
 |cont=>obtain⟨σ',H',I,q⟩:=h;exact⟨σ',H',I.unwish,q⟩
 |ret u=>obtain⟨v,σ',H',I,r,q⟩:=h;exact⟨v,σ',H',I.unwish,r,q⟩
theorem PE.nox{e:Expr}{t:TE}(h:PE X.nox e t):PE X e t:=fun pins s σ H Q I hw=>
 wpAny_mono (h pins s σ H Q (I.wish _) hw) (fun _ _ ⟨v,H',I',r,q⟩=>⟨v,H',I'.unwish,r,q⟩) fun _ _ z=>False.elim z
theorem PT.nox{e:Expr}{t:TT}(h:PT X.nox e t):PT X e t:=fun pins s σ H Q I hw=>
 wpAny_mono (h pins s σ H Q (I.wish _) hw) (fun _ _ ⟨H',I',q⟩=>⟨H',I'.unwish,q⟩) fun _ _ z=>False.elim z
theorem PSs.nox{st:List Stmt}{t:TS}(h:PSs X.nox st t):PSs X st t:=fun pins s σ H D I hw=>
 wpAny_mono (h pins s σ H D (I.wish _) hw) (fun _ _ q=>q.unwish) fun _ _ z=>False.elim z
end
section
variable{X:Cx}{st:Stmt}{rest:List Stmt}{t u:TS}{e:Expr}{te:TE}{pos:Pos}
def LX:TS:=fun D σ H=>D.nx σ H
def Oz(t u:TS):TS:=fun D σ H=>t {D with nx:=u D} σ H
theorem F0:PSs X [] LX:=fun _ _ σ H _ I h=>wpAny_execs_nil ⟨σ,H,I,h⟩
theorem Dv(h1:PS X st t)(h2:PSs X rest u):PSs X (st::rest) (Oz t u):=by
 intro pins s σ H D I h
 refine wpAny_execs_cons (b5 (h1 pins s σ H {D with nx:=u D} I h) fun f s1 q=>?_)
 cases f with
 |next=>
  obtain⟨σ',H',I',q⟩:=q
  exact h2 pins s1 σ' H' D I' q
 |ret v=>exact q
 |brk=>exact q
 |cont=>exact q
theorem F4(h1:PS X st t):PSs X [st] t:=by
 intro pins s σ H D I h
 refine wpAny_execs_cons (b5 (h1 pins s σ H D I h) fun f s1 q=>?_)
 cases f with
 |next=>exact wpAny_execs_nil q
 |ret v=>exact q
 |brk=>exact q
 |cont=>exact q
theorem Inv.quiet{pins:List (Addr×Obj)}{σ:St}{H:Hp}{s:Shared}(I:Inv X pins σ H s):interactive X.env=false:=by simp[interactive,I.ok.kind]
def Ed(te:TE):TS:=fun D σ H=>te σ H fun _ H1=>D.nx σ H1
theorem mW(he:PE X e te)(hs:swapsWith e none pos.line X.env=pure false:=by rfl):PS X (.Expr e pos) (Ed te):=by
 intro pins s σ H D I h
 exact wpAny_Expr_any (b5 (he pins s σ H _ I h) fun v s1 ⟨x,H1,I1,r1,q1⟩=>⟨σ,H1,I1,q1⟩) I.quiet hs
def Oy(te:TE):TS:=fun D σ H=>te σ H D.rt
theorem Jm(he:PE X e te):PS X (.Return (some e) pos) (Oy te):=by
 intro pins s σ H D I h
 exact wpAny_Return_some (b5 (he pins s σ H _ I h) fun v s1 ⟨x,H1,I1,r1,q1⟩=>⟨x,σ,H1,I1,r1,q1⟩)
def Ov(c:TT)(t u:TS):TS:=fun D σ H=>c σ H fun b H1=>if b=true then t D σ H1 else u D σ H1
theorem LB{c:Expr}{a b:List Stmt}{tc:TT}(hc:PT X c tc)(ha:PSs X a t)(hb:PSs X b u):PS X (.If c a b pos) (Ov tc t u):=by
 intro pins s σ H D I h
 refine wpAny_If (b5 (hc pins s σ H _ I h) fun d s1 ⟨H1,I1,q1⟩=>?_)
 cases d with
 |true=>exact ha pins s1 σ H1 D I1 q1
 |false=>exact hb pins s1 σ H1 D I1 q1
end
abbrev TG:=V→St→Hp→(St→Hp→Prop)→Prop
abbrev GA:=List V→St→Hp→(St→Hp→Prop)→Prop
def PG(X:Cx)(target:Expr)(t:TG):Prop:=
 ∀(pins:List (Addr×Obj)) (s:Shared) (σ:St) (H:Hp) (v:V) (u:Value) (Q:St→Hp→Prop),Inv X pins σ H s→RelV v u→t v σ H Q→
  wpAny (model X.prog X.w) X.A (assign target X.env u) (fun _ s'=>∃σ' H',Inv X pins σ' H' s'∧Q σ' H') X.xe s
def L7(X:Cx)(ts:List Expr)(t:GA):Prop:=
 ∀(pins:List (Addr×Obj)) (s:Shared) (σ:St) (H:Hp) (vs:List V) (us:List Value) (Q:St→Hp→Prop),Inv X pins σ H s→Vals vs us→t vs σ H Q→
  wpAny (model X.prog X.w) X.A (assignInOrder ((assignEach ts X.env).map (·.2)) us) (fun _ s'=>∃σ' H',Inv X pins σ' H' s'∧Q σ' H') X.xe s
abbrev MI:=V→V→V→Hp→(Hp→Prop)→Prop
section
variable{X:Cx}{pos:Pos}
def B7(i:Nat):TG:=fun v σ H Q=>Q (σ.set i (some v)) H
theorem bj{i:Nat}{x:Str}(hN:X.N.Nodup)(hi:X.N[i]? =some x)(hx:Loc X.env.scope x)(hf:X.fn x=true∨X.env.scope.names.lookup x=some .local:=by first | exact .inl rfl | exact .inr rfl | assumption):PG X (.Name x pos) (B7 i):=by
 intro pins s σ H v u Q I r h
 exact wpAny_assign_Name (vD I hN hi hx r (fun s' I'=>⟨_,H,I',h⟩) hf)
def Kl:GA:=fun vs σ H Q=>vs=[]∧Q σ H
def GR(t:TG)(u:GA):GA:=fun vs σ H Q=>∃v r,vs=v::r∧t v σ H fun σ' H'=>u r σ' H' Q
theorem sS:L7 X [] Kl:=by
 intro pins s σ H vs us Q I r h
 obtain⟨e,h⟩:=h
 subst e
 cases r
 exact assignInOrder_nil ⟨σ,H,I,h⟩
theorem fY{e:Expr}{es:List Expr}{t:TG}{u:GA}(h1:PG X e t)(h2:L7 X es u)
 (hs:(assignEach (e::es) X.env).map (·.2)=assign e X.env::(assignEach es X.env).map (·.2):=by rfl):L7 X (e::es) (GR t u):=by
 intro pins s σ H vs us Q I r h
 obtain⟨v,vr,e1,h⟩:=h
 subst e1
 cases r with
 |cons r rr=>
  rw[hs]
  refine assignInOrder_cons (b5 (h1 pins s σ H _ _ _ I r h) fun _ s1 ⟨σ1,H1,I1,q1⟩=>?_)
  exact h2 pins s1 σ1 H1 _ _ Q I1 rr q1
def HA(K:W.Frag)(n:Nat)(t:GA):TG:=fun v σ H Q=>∃a xs,v= .ref a∧SqT K H a xs∧xs.length=n∧t xs σ H Q
theorem xy{es:List Expr}{k:Nat}{t:GA}{n:Nat}(hc:X.calm=true)(h:L7 X es t)
 (hn:(assignEach es X.env).length=n:=by rfl)(pN:(assignEach es X.env).findIdx? (·.1)=none:=by rfl):PG X (.Tuple es k pos) (HA X.K n t):=by
 intro pins s σ H v u Q I r hw
 obtain⟨a,xs,e1,hq,hl,hw⟩:=hw
 subst e1
 cases r
 obtain⟨aD,rv,ht,hz⟩:=I.tuple hq
 refine assign_Tuple_tuple (I.ok.hd hc) ht (by simp[hn,←hl,rv.length]) pN fun h' hx=>?_
 have I1:Inv X pins σ H {s with heap:=h'}:=I.kept (t':=s.toks) fun b o e=>hx b o (Nat.ne_of_lt (Heap.lt_size e)) e
 exact h pins _ σ H xs _ Q I1 (by simpa using rv) hw
def wB(to ti:TE)(t:MI):TG:=fun v σ H Q=>to σ H fun o H1=>ti σ H1 fun i H2=>t o i v H2 fun H3=>Q σ H3
def Ol(te:TE)(g:TG):TS:=fun D σ H=>te σ H fun x H1=>g x σ H1 D.nx
theorem sT{tg e:Expr}{te:TE}{g:TG}(he:PE X e te)(hg:PG X tg g)(hs:swapsWithSole [tg] e pos.line X.env=pure false:=by rfl)(hw:swappedStores [tg] e X.env=pure none:=by rfl)
 (h1:(assignEach [tg] X.env).map (·.2)=[assign tg X.env]:=by rfl):PS X (.Assign [tg] e pos) (Ol te g):=by
 intro pins s σ H D I h
 refine wpAny_Assign_stores (b5 (he pins s σ H _ I h) fun v s1 ⟨x,H1,I1,r1,q1⟩=>?_) hs hw
 rw[h1]
 exact b5 (hg pins s1 σ H1 x v _ I1 r1 q1) fun _ s2 q=>q
end
section
variable{X:Cx}{pos:Pos}
def JF(c:TT)(tb:TS):TS:=fun D σ H=>∃W:Nat→St→Hp→Prop,(∃m,W m σ H)∧∀m σ H,W m σ H→
 c σ H fun b H1=>if b=true then∃N:St→Hp→Prop,(∀σ' H',N σ' H'→∃m',m'<m∧W m' σ' H')∧tb {D with nx:=N,ct:=N,bk:=D.nx} σ H1 else D.nx σ H1
theorem Dt{c:Expr}{body:List Stmt}{tc:TT}{tb:TS}(hp:PassesOwn (model X.prog X.w) X.A X.env X.xe)(hc:PT X c tc)(hb:PSs X body tb):PS X (.While c body [] pos) (JF tc tb):=by
 intro pins s σ H D I h
 obtain⟨W,⟨m0,w0⟩,turn⟩:=h
 refine wpAny_While (codeAny_whileLoop (fun n s'=>∃σ' H',Inv X pins σ' H' s'∧W n σ' H') ?_ m0 ⟨σ,H,I,w0⟩)
 rintro n s1 ⟨σ1,H1,I1,w1⟩
 refine wpAny_passesOwn hp (b5 (hc pins s1 σ1 H1 _ I1 (turn n σ1 H1 w1)) fun b s2 ⟨H2,I2,q2⟩=>?_)
 cases b with
 |true=>
  obtain⟨N,hN,q2⟩:=q2
  rw[if_pos rfl]
  refine wpAny_passesOwn hp (b5 (hb pins s2 σ1 H2 _ I2 q2) fun f s3 q3=>?_)
  cases f with
  |next=>
   obtain⟨σ3,H3,I3,n3⟩:=q3
   obtain⟨m',hm,w3⟩:=hN σ3 H3 n3
   exact⟨m',hm,σ3,H3,I3,w3⟩
  |cont=>
   obtain⟨σ3,H3,I3,n3⟩:=q3
   obtain⟨m',hm,w3⟩:=hN σ3 H3 n3
   exact⟨m',hm,σ3,H3,I3,w3⟩
  |brk=>exact q3
  |ret v=>exact q3
 |false=>
  rw[if_neg Bool.false_ne_true]
  exact wpAny_execs_nil ⟨σ1,H2,I2,q2⟩
end
structure It where
 go:Nat→Hp→Prop
 yld:Nat→Hp→V→Hp→Prop
 stop:Nat→Hp→Prop
def pD(X:Cx)(pins:List (Addr×Obj))(H:Hp)(b:Addr):Prop:=
 H b=none∧b≠X.env.locals∧b∉X.fs∧(b∈X.ex∨X.s₀.heap.objs.size≤b)∧(∀x c,X.env.cells.lookup x=some c→c≠b)∧∀p∈X.pn++pins,p.1≠b
theorem Inv.fpOk{X:Cx}{pins:List (Addr×Obj)}{σ:St}{H H':Hp}{s:Shared}{b:Addr}(I:Inv X pins σ H s)(hb:s.heap.objs.size≤b)(hn:H' b=none):pD X pins H' b:=by
 refine⟨hn,Nat.ne_of_gt (Nat.lt_of_lt_of_le I.lt hb),I.nofs hb, .inr (Nat.le_trans I.sz hb),fun x c e z=>?_,fun p hp z=>?_⟩
 ·obtain⟨v,q⟩:=I.cell x c e
  exact absurd (Nat.lt_of_lt_of_le q.lt (by rw[z];exact hb)) (Nat.lt_irrefl _)
 ·exact absurd (Nat.lt_of_lt_of_le (Heap.lt_size (I.pin p hp).1) (by rw[z];exact hb)) (Nat.lt_irrefl _)
structure Turn (P:Program) (w:World) (K:W.Frag) (tg:Expr) (J:It) (fp:List Addr) (it:Addr) (tn:Nat→Heap→Prop):Prop where
 mem:it∈fp
 obj:∀i h,tn i h→∀b∈fp,∃o,h.get? b=some o∧∀v,o.data≠ .cell v
 keep:∀i h h',tn i h→(∀b∈fp,∀o,h.get? b=some o→h'.get? b=some o)→tn i h'
 item:∀(X:Cx),X.prog=P→X.w=w→X.K=K→X.calm=true→∀(i:Nat) (pins:List (Addr×Obj)) (s:Shared) (σ:St) (H:Hp) (E:Value→Shared→Prop),Inv X pins σ H s→(∀b∈fp,pD X pins H b)→tn i s.heap→J.go i H→
  wpAny (model P w) X.A (pyNext (.ref it)) (fun r s1=>∃u,r=some u∧
   wpAny (model P w) X.A (letOwnedTupleGo tg (.ref it) u) (fun _ s2=>∃x H',Inv X pins σ H' s2∧RelV x u∧J.yld i H x H'∧tn (i+1) s2.heap∧∀b∈fp,H' b=none) E s1) E s
 done:∀(X:Cx),X.prog=P→X.w=w→X.K=K→X.calm=true→∀(i:Nat) (pins:List (Addr×Obj)) (s:Shared) (σ:St) (H:Hp) (E:Value→Shared→Prop),Inv X pins σ H s→(∀b∈fp,pD X pins H b)→tn i s.heap→J.stop i H→
  wpAny (model P w) X.A (pyNext (.ref it)) (fun r s1=>r=none∧Inv X pins σ H s1) E s
 self:∀(A:Around) (i:Nat) (s:Shared) (Q:Value→Shared→Prop) (E:Value→Shared→Prop),tn i s.heap→Q (.ref it) s→wpAny (model P w) A (pyIter (.ref it)) Q E s
abbrev TI:=St→Hp→(It→Hp→Prop)→Prop
def OJ(X:Cx)(pins:List (Addr×Obj))(σ:St)(tg:Expr)(R:It→Hp→Prop)(Px:Value)(s2:Shared):Prop:=
 ∃(it:Addr) (fp:List Addr) (tn:Nat→Heap→Prop) (J:It) (H':Hp),Px= .ref it∧Inv X pins σ H' s2∧Turn X.prog X.w X.K tg J fp it tn∧tn 0 s2.heap∧(∀b∈fp,pD X pins H' b)∧R J H'
def PI(X:Cx)(tg iter:Expr)(wi:TI):Prop:=
 ∀(pins:List (Addr×Obj)) (s:Shared) (σ:St) (H:Hp) (R:It→Hp→Prop),Inv X pins σ H s→wi σ H R→
  wpAny (model X.prog X.w) X.A (eval iter X.env) (fun v s1=>wpAny (model X.prog X.w) X.A (pyIter v) (OJ X pins σ tg R) X.xe s1) X.xe s
theorem nG{M:Model}{A:Around}{E:Value→Shared→Prop}{s:Shared}{tg:Expr}{it:Addr}{u:Value}{o:Obj}{n:String}{vs:Array Value}{Q:Unit→Shared→Prop}(ho:s.heap.get? it=some o)(hc:o.cls= .type n)(hd:o.data= .fields vs)
 (hn:["enumerate","zip","dict_itemiterator","dict_reverseitemiterator","odict_iterator","itertools.zip_longest","itertools.pairwise"].contains n=false)(hQ:Q () s):wpAny M A (letOwnedTupleGo tg (.ref it) u) Q E s:=by
 unfold letOwnedTupleGo
 cases tg<;>first
  |exact wpAny_pure hQ
  |(cases u<;>first
    |exact wpAny_pure hQ
    |(refine wpAny_bind (wpAny_load ho ?_)
      rw[hc,hd]
      show wpAny M A (if (["enumerate","zip","dict_itemiterator","dict_reverseitemiterator","odict_iterator","itertools.zip_longest","itertools.pairwise"].contains n&&vs[0]? ==some (rawInt _))=true then _ else _) Q E s
      rw[if_neg (by intro h;rw[hn,Bool.false_and] at h;cases h)]
      exact wpAny_pure hQ))
def MF(K:W.Frag)(a:Addr):It:=
 ⟨fun i H=>∃xs x,SqL K H a xs∧xs[i]? =some x,fun i H x H'=>H'=H∧∀xs,SqL K H a xs→xs[i]? =some x,fun i H=>∃xs,SqL K H a xs∧xs.length≤i⟩
def MG(K:W.Frag)(a:Addr):It:=
 ⟨fun i H=>∃xs x,SqT K H a xs∧xs[i]? =some x,fun i H x H'=>H'=H∧∀xs,SqT K H a xs→xs[i]? =some x,fun i H=>∃xs,SqT K H a xs∧xs.length≤i⟩
def J3(lo:Int)(n:Nat):It:=⟨fun i _=>i<n,fun i H x H'=>H'=H∧x= .int (lo+i),fun i _=>n≤i⟩
theorem AZ{P:Program}{w:World}{K:W.Frag}{tg:Expr}(a it:Addr):Turn P w K tg (MF K a) [it] it (fun i h=>h.IsListIter it a i) where
 mem:=by simp
 obj:=fun i h st b hb=>by
  have e:b=it:=by simpa using hb
  subst e
  obtain⟨o,e,c,d⟩:=st
  exact⟨o,e,fun v z=>by rw[d] at z;cases z⟩
 keep:=fun i h h' st k=>st.at fun o e=>k it (by simp) o e
 item:=by
  intro X hP hw hK hc i pins s σ H E I hf st hg
  subst hP hw hK
  obtain⟨xs,x,hq,hx⟩:=hg
  obtain⟨aD,rv,p,hz⟩:=I.list hq
  obtain⟨u,hu,ru⟩:=rv.get hx
  obtain⟨f0,f1,f2,f3,f4,f5⟩:=hf it (by simp)
  refine wpAny_pyNext_list_item st p.isList (x:=u) (by simpa using hu) fun h' lR sb=>?_
  have I1:Inv X pins σ H {s with heap:=h'}:=I.turned (t':=s.toks) (fun b o hb e=>(sb.2 b hb).trans e) f0 f1 f3 f4 f5
  obtain⟨o,e,c,d⟩:=id lR
  exact⟨u,rfl,nG (s:={s with heap:=h'}) e c d (by decide) ⟨x,H,I1,ru,⟨rfl,fun ys hy=>by rw[I.list_inj hy hq];exact hx⟩,lR,fun b hb=>(hf b hb).1⟩⟩
 done:=by
  intro X hP hw hK hc i pins s σ H E I hf st hg
  subst hP hw hK
  obtain⟨xs,hq,hx⟩:=hg
  obtain⟨aD,rv,p,hz⟩:=I.list hq
  obtain⟨f0,f1,f2,f3,f4,f5⟩:=hf it (by simp)
  have hl:=rv.length
  exact wpAny_pyNext_list_end (I.ok.hd hc) st p.isList (by simp;omega) fun h' eb=>⟨rfl,I.turned (t':=s.toks) (fun b o hb e=>eb b o hb e) f0 f1 f3 f4 f5⟩
 self:=fun _ _ _ _ _ st h=>wpAny_pyIter_listiter st h
theorem xR{P:Program}{w:World}{K:W.Frag}{tg:Expr}(a it:Addr):Turn P w K tg (MG K a) [it] it (fun i h=>h.IsTupleIter it a i) where
 mem:=by simp
 obj:=fun i h st b hb=>by
  have e:b=it:=by simpa using hb
  subst e
  obtain⟨o,e,c,d⟩:=st
  exact⟨o,e,fun v z=>by rw[d] at z;cases z⟩
 keep:=fun i h h' st k=>st.at fun o e=>k it (by simp) o e
 item:=by
  intro X hP hw hK hc i pins s σ H E I hf st hg
  subst hP hw hK
  obtain⟨xs,x,hq,hx⟩:=hg
  obtain⟨aD,rv,p,hz⟩:=I.tuple hq
  obtain⟨u,hu,ru⟩:=rv.get hx
  obtain⟨f0,f1,f2,f3,f4,f5⟩:=hf it (by simp)
  refine wpAny_pyNext_tuple_item st (show s.heap.IsTuple a aD.toArray from p) (x:=u) (by simpa using hu) fun h' lR sb=>?_
  have I1:Inv X pins σ H {s with heap:=h'}:=I.turned (t':=s.toks) (fun b o hb e=>(sb.2 b hb).trans e) f0 f1 f3 f4 f5
  obtain⟨o,e,c,d⟩:=id lR
  exact⟨u,rfl,nG (s:={s with heap:=h'}) e c d (by decide) ⟨x,H,I1,ru,⟨rfl,fun ys hy=>by rw[I.tuple_inj hy hq];exact hx⟩,lR,fun b hb=>(hf b hb).1⟩⟩
 done:=by
  intro X hP hw hK hc i pins s σ H E I hf st hg
  subst hP hw hK
  obtain⟨xs,hq,hx⟩:=hg
  obtain⟨aD,rv,p,hz⟩:=I.tuple hq
  obtain⟨f0,f1,f2,f3,f4,f5⟩:=hf it (by simp)
  have hl:=rv.length
  exact wpAny_pyNext_tuple_end (I.ok.hd hc) st (show s.heap.IsTuple a aD.toArray from p) (by simp;omega) fun h' eb=>⟨rfl,I.turned (t':=s.toks) (fun b o hb e=>eb b o hb e) f0 f1 f3 f4 f5⟩
 self:=fun _ _ _ _ _ st h=>wpAny_pyIter_tupleiter st h
theorem xQ{P:Program}{w:World}{K:W.Frag}{tg:Expr}(it:Addr)(lo:Int)(n:Nat):Turn P w K tg (J3 lo n) [it] it (fun i h=>IsRangeIter h it (lo+(i:Nat)*1) ((n:Int) - (i:Nat)) 1) where
 mem:=by simp
 obj:=fun i h st b hb=>by
  have e:b=it:=by simpa using hb
  subst e
  exact⟨_,st,fun v z=>by
   have z':Data.fields _=Data.cell v:=z
   cases z'⟩
 keep:=fun i h h' st k=>k it (by simp) _ st
 item:=by
  intro X hP hw hK hc i pins s σ H E I hf st hg
  subst hP hw hK
  obtain⟨f0,f1,f2,f3,f4,f5⟩:=hf it (by simp)
  have W:=Walks.range (prog:=X.prog) (w:=X.w) (I.ok.hd hc) it lo 1 n
  refine W.item i s _ _ hg st fun v h' tk hv lR kk=>?_
  obtain⟨t,rfl⟩:=hv
  have I1:Inv X pins σ H {s with heap:=h',toks:=tk}:=I.turned (fun b o hb e=>kk b o (by simpa using hb) e) f0 f1 f3 f4 f5
  refine⟨_,rfl,nG (s:={s with heap:=h',toks:=tk}) (n:="range_iterator") lR rfl rfl (by decide) ⟨.int (lo+i),H,I1,⟨t,?_⟩,⟨rfl,rfl⟩,lR,fun b hb=>(hf b hb).1⟩⟩
  rw[Int.mul_one]
 done:=by
  intro X hP hw hK hc i pins s σ H E I hf st hg
  subst hP hw hK
  obtain⟨f0,f1,f2,f3,f4,f5⟩:=hf it (by simp)
  exact wpAny_pyNext_range_end (I.ok.hd hc) st (by have:n≤i:=hg;omega) fun h' eb=>⟨rfl,I.turned (t':=s.toks) (fun b o hb e=>eb b o hb e) f0 f1 f3 f4 f5⟩
 self:=fun _ _ _ _ _ st h=>wpAny_pyIter_rangeiter st h
section
variable{X:Cx}{tg:Expr}
def K_(K:W.Frag)(tl:TE):TI:=fun σ H R=>tl σ H fun x H1=>∃a,x= .ref a∧(∃xs,SqL K H1 a xs)∧R (MF K a) H1
def NV(K:W.Frag)(tl:TE):TI:=fun σ H R=>tl σ H fun x H1=>∃a,x= .ref a∧(∃xs,SqT K H1 a xs)∧R (MG K a) H1
theorem FV{l:Expr}{tl:TE}(hl:PE X l tl):PI X tg l (K_ X.K tl):=by
 intro pins s σ H R I h
 refine b5 (hl pins s σ H _ I h) fun v s1 ⟨x,H1,I1,r1,q1⟩=>?_
 obtain⟨a,e,⟨xs,hq⟩,q⟩:=q1
 subst e
 cases r1
 obtain⟨aD,rv,p,hz⟩:=I1.list hq
 refine wpAny_pyIter_list p.isList ?_
 refine⟨s1.heap.objs.size,[s1.heap.objs.size],_,_,H1,rfl,I1.kept (t':=s1.toks) fun b o e=>Heap.get?_push_of_some _ e,AZ a _,⟨_,Heap.get?_push_size _ rfl,rfl,rfl⟩,fun b hb=>?_,q⟩
 have e:b=s1.heap.objs.size:=by simpa using hb
 subst e
 exact I1.fpOk (Nat.le_refl _) (I1.hok.fresh (Nat.le_refl _))
theorem Jk{l:Expr}{tl:TE}(hl:PE X l tl):PI X tg l (NV X.K tl):=by
 intro pins s σ H R I h
 refine b5 (hl pins s σ H _ I h) fun v s1 ⟨x,H1,I1,r1,q1⟩=>?_
 obtain⟨a,e,⟨xs,hq⟩,q⟩:=q1
 subst e
 cases r1
 obtain⟨aD,rv,p,hz⟩:=I1.tuple hq
 refine wpAny_pyIter_tuple (show s1.heap.IsTuple a aD.toArray from p) ?_
 refine⟨s1.heap.objs.size,[s1.heap.objs.size],_,_,H1,rfl,I1.kept (t':=s1.toks) fun b o e=>Heap.get?_push_of_some _ e,xR a _,⟨_,Heap.get?_push_size _ rfl,rfl,rfl⟩,fun b hb=>?_,q⟩
 have e:b=s1.heap.objs.size:=by simpa using hb
 subst e
 exact I1.fpOk (Nat.le_refl _) (I1.hok.fresh (Nat.le_refl _))
theorem vi{pins:List (Addr×Obj)}{σ:St}{H:Hp}{s:Shared}{R:It→Hp→Prop}{E:Value→Shared→Prop}{lo hi:Int}{t u v:Tok}{tk:Nat}(I:Inv X pins σ H s)(h1: -(2 ^ 62)≤lo)(h2:lo<2 ^ 62)(h3: -(2 ^ 62)≤hi)(h4:hi<2 ^ 62)
 (q:R (J3 lo (hi - lo).toNat) H):wpAny (model X.prog X.w) X.A (pyIter (.ref s.heap.objs.size)) (OJ X pins σ tg R) E {s with heap:=s.heap.push {cls:= .type "range",data:= .fields #[.int lo t, .int hi u, .int 1 v]},toks:=tk}:=by
 refine wpAny_pyIter_range (IsRange.new ..) (small_one h1 h2 h3 h4) ?_
 have I1:Inv X pins σ H {s with heap:=s.heap.push {cls:= .type "range",data:= .fields #[.int lo t, .int hi u, .int 1 v]},toks:=tk}:=I.kept fun b o e=>Heap.get?_push_of_some _ e
 refine⟨(s.heap.push {cls:= .type "range",data:= .fields #[.int lo t, .int hi u, .int 1 v]}).objs.size,[(s.heap.push {cls:= .type "range",data:= .fields #[.int lo t, .int hi u, .int 1 v]}).objs.size],_,_,H,rfl,
  I1.kept (t':=tk) fun b o e=>Heap.get?_push_of_some _ e,xQ _ lo (hi - lo).toNat,?_,fun b hb=>?_,q⟩
 ·have e1:lo+((0:Nat):Int)*1=lo:=by simp
  have e2:(((hi - lo).toNat:Nat):Int) - ((0:Nat):Int)=Builtin.Range.rangeSize lo hi 1:=by rw[rangeSize_one];split<;>omega
  show IsRangeIter _ _ (lo+((0:Nat):Int)*1) ((((hi - lo).toNat:Nat):Int) - ((0:Nat):Int)) 1
  rw[e1,e2]
  exact Heap.get?_push_size _ rfl
 ·have e:b=(s.heap.push {cls:= .type "range",data:= .fields #[.int lo t, .int hi u, .int 1 v]}).objs.size:=by simpa using hb
  subst e
  exact I1.fpOk (Nat.le_refl _) (I1.hok.fresh (Nat.le_refl _))
def La(ta:TA):TI:=fun σ H R=>ta σ H fun vs H1=>∃j:Int,vs=[.int j]∧ -(2 ^ 62)≤j∧j<2 ^ 62∧R (J3 0 j.toNat) H1
def Lb(ta:TA):TI:=fun σ H R=>ta σ H fun vs H1=>∃i j:Int,vs=[.int i, .int j]∧(-(2 ^ 62)≤i∧i<2 ^ 62∧ -(2 ^ 62)≤j∧j<2 ^ 62)∧R (J3 i (j - i).toNat) H1
theorem AG{a:Expr}{ta:TA}{p pos:Pos}(hg:Gl X "range")(hm:X.mg "range"=none)(ha:PA X [a] ta)(hs:starEach [a] X.env=[(false,eval a X.env)]:=by rfl):PI X tg (.Call (.Name "range" p) [a] [] pos) (La ta):=by
 intro pins s σ H R I h
 refine Call_ (dZ I hg hm boot_range (PyProof.Rows.callWith_type1 (b5 (ha pos pins s σ H _ I h) fun us s1 ⟨vs,H1,I1,r1,q1⟩=>?_) hs rfl))
 obtain⟨j,e,q1,q2,q⟩:=q1
 subst e
 cases r1 with
 |cons r rr=>
  cases rr
  obtain⟨t,rfl⟩:=r
  exact call_range_1 (vi I1 (by omega) (by omega) q1 q2 (by simpa using q))
theorem AH{a b:Expr}{ta:TA}{p pos:Pos}(hg:Gl X "range")(hm:X.mg "range"=none)(ha:PA X [a,b] ta)(hs:starEach [a,b] X.env=[(false,eval a X.env),(false,eval b X.env)]:=by rfl)(EB:starEach [b] X.env=[(false,eval b X.env)]:=by rfl):
 PI X tg (.Call (.Name "range" p) [a,b] [] pos) (Lb ta):=by
 intro pins s σ H R I h
 refine Call_ (dZ I hg hm boot_range (PyProof.Rows.callWith_type1 (b5 (ha pos pins s σ H _ I h) fun us s1 ⟨vs,H1,I1,r1,q1⟩=>?_) (by rw[hs,EB]) (by rw[EB];rfl)))
 obtain⟨i,j,e,⟨q1,q2,q3,q4⟩,q⟩:=q1
 subst e
 cases r1 with
 |cons r rr=>
  cases rr with
  |cons r' rr=>
   cases rr
   obtain⟨t,rfl⟩:=r
   obtain⟨t',rfl⟩:=r'
   exact call_range_2 (vi I1 q1 q2 q3 q4 q)
def Ou(wi:TI)(g:TG)(tb:TS):TS:=fun D σ H=>wi σ H fun J H1=>∃W:Nat→Nat→St→Hp→Prop,(∃m,W 0 m σ H1)∧∀i m σ H,W i m σ H→
 (J.stop i H∧D.nx σ H)∨(J.go i H∧∃N:St→Hp→Prop,(∀σ' H',N σ' H'→∃m',m'<m∧W (i+1) m' σ' H')∧∀x H',J.yld i H x H'→g x σ H' fun σ2 H2=>tb {D with nx:=N,ct:=N,bk:=D.nx} σ2 H2)
def oR(fp:List Addr)(h:Heap):List (Addr×Obj):=fp.filterMap fun b=>(h.get? b).map fun o=>(b,o)
theorem gq{fp:List Addr}{h:Heap}{b:Addr}{o:Obj}(hb:b∈fp)(e:h.get? b=some o):(b,o)∈oR fp h:=List.mem_filterMap.mpr ⟨b,hb,by rw[e];rfl⟩
theorem Aq{fp:List Addr}{h:Heap}{p:Addr×Obj}(hp:p∈oR fp h):p.1∈fp∧h.get? p.1=some p.2:=by
 obtain⟨b,hb,e⟩:=List.mem_filterMap.mp hp
 cases q:h.get? b with
 |none=>rw[q] at e;cases e
 |some o=>
  rw[q] at e
  have e':(b,o)=p:=Option.some.inj e
  subst e'
  exact⟨hb,q⟩
theorem Inv.pinned{pins:List (Addr×Obj)}{σ:St}{H:Hp}{s:Shared}{fp:List Addr}(I:Inv X pins σ H s)(hf:∀b∈fp,pD X pins H b)(ho:∀b∈fp,∃o,s.heap.get? b=some o∧∀v,o.data≠ .cell v):Inv X (pins++oR fp s.heap) σ H s:=
 I.pins_of fun p hp=>(List.mem_append.mp hp).elim (fun z=>I.pin p (List.mem_append_right _ z)) fun z=>by
  obtain⟨hb,e⟩:=Aq z
  obtain⟨f0,f1,f2,_⟩:=hf p.1 hb
  obtain⟨o,e',d⟩:=ho p.1 hb
  rw[e] at e';cases e'
  exact⟨e,f0,f1,f2,d⟩
theorem Inv.unpinned{pins pl:List (Addr×Obj)}{σ:St}{H:Hp}{s:Shared}(I:Inv X (pins++pl) σ H s):Inv X pins σ H s:=I.pins_of fun p hp=>I.pin p (List.mem_append_right _ (List.mem_append_left _ hp))
theorem Jl{iter:Expr}{body:List Stmt}{wi:TI}{g:TG}{tb:TS}{pos:Pos}(hp:PassesOwn (model X.prog X.w) X.A X.env X.xe)(hc:X.calm=true)(hi:PI X tg iter wi)(hg:PG X tg g)(hb:PSs X body tb)
 (hs:∀x,foldedSetIterable iter X.env x=pure x:=by intro _;rfl):PS X (.For tg iter body [] pos) (Ou wi g tb):=by
 intro pins s σ H D I h
 refine wpAny_For (b5 (hi pins s σ H _ I h) fun v s1 h1=>b5 h1 fun Px s2 h2=>?_) hs
 obtain⟨it,fp,tn,J,H2,e,I2,T,xN,f2,W,⟨m0,w0⟩,turn⟩:=h2
 subst e
 have JC:∀{H':Hp},(∀b∈fp,H' b=none)→∀b∈fp,pD X pins H' b:=fun hn b hb=>⟨hn b hb,(f2 b hb).2⟩
 refine codeAny_forLoop_any (fun n s'=>∃i σ' H',Inv X pins σ' H' s'∧tn i s'.heap∧(∀b∈fp,H' b=none)∧W i n σ' H') ?_ m0 ⟨0,σ,H2,I2,xN,fun b hb=>(f2 b hb).1,w0⟩
 rintro n s3 ⟨i,σ3,H3,I3,JY,Ma,w3⟩
 rcases turn i n σ3 H3 w3 with⟨stop,qn⟩ | ⟨go,N,hN,step⟩
 ·refine wpAny_passesOwn hp (b5 (T.done X rfl rfl rfl hc i pins s3 σ3 H3 X.xe I3 (JC Ma) JY stop) fun r s4 ⟨hr,I4⟩=>?_)
  subst hr
  exact wpAny_execs_nil ⟨σ3,H3,I4,qn⟩
 ·refine wpAny_passesOwn hp (b5 (T.item X rfl rfl rfl hc i pins s3 σ3 H3 X.xe I3 (JC Ma) JY go) fun r s4 ⟨u,hr,h4⟩=>?_)
  subst hr
  refine wpAny_passesOwn hp (b5 h4 fun _ s5 ⟨x,H5,I5,r5,y5,Oj,Qe⟩=>?_)
  have I5':=I5.pinned (JC Qe) (T.obj _ _ Oj)
  refine wpAny_passesOwn hp (b5 (hg _ s5 σ3 H5 x u _ I5' r5 (step x H5 y5)) fun _ s6 ⟨σ6,H6,I6,q6⟩=>?_)
  refine wpAny_passesOwn hp (b5 (hb _ s6 σ6 H6 _ I6 q6) fun f s7 q7=>?_)
  have again:∀{σ7:St}{H7:Hp},Inv X (pins++oR fp s5.heap) σ7 H7 s7→N σ7 H7→∃m,m<n∧∃i σ' H',Inv X pins σ' H' s7∧tn i s7.heap∧(∀b∈fp,H' b=none)∧W i m σ' H':=fun {σ7 H7} I7 n7=>by
   obtain⟨m',hm,w7⟩:=hN σ7 H7 n7
   refine⟨m',hm,i+1,σ7,H7,I7.unpinned,T.keep _ _ _ Oj fun b hb o e=>(I7.pin (b,o) (List.mem_append_right _ (List.mem_append_right _ (gq hb e)))).1,fun b hb=>?_,w7⟩
   obtain⟨o,e,d⟩:=T.obj _ _ Oj b hb
   exact(I7.pin (b,o) (List.mem_append_right _ (List.mem_append_right _ (gq hb e)))).2.1
  cases f with
  |next=>obtain⟨σ7,H7,I7,n7⟩:=q7;exact again I7 n7
  |cont=>obtain⟨σ7,H7,I7,n7⟩:=q7;exact again I7 n7
  |brk=>obtain⟨σ7,H7,I7,q7⟩:=q7;exact⟨σ7,H7,I7.unpinned,q7⟩
  |ret v=>obtain⟨x7,σ7,H7,I7,r7,q7⟩:=q7;exact⟨x7,σ7,H7,I7.unpinned,r7,q7⟩
end
abbrev R2:=V→V→Hp→VK→Prop
def OpR(X:Cx)(f:Value→Value→Sem Value)(r:R2):Prop:=
 ∀(pins:List (Addr×Obj)) (s:Shared) (σ:St) (H:Hp) (x y:V) (v u:Value) (Q:VK),Inv X pins σ H s→RelV x v→RelV y u→r x y H Q→
  wpAny (model X.prog X.w) X.A (f v u) (EP X pins σ Q) X.xe s
def MK(X:Cx)(f:Value→Sem Value)(r:V→Hp→VK→Prop):Prop:=
 ∀(pins:List (Addr×Obj)) (s:Shared) (σ:St) (H:Hp) (x:V) (v:Value) (Q:VK),Inv X pins σ H s→RelV x v→r x H Q→
  wpAny (model X.prog X.w) X.A (f v) (EP X pins σ Q) X.xe s
def CallR(X:Cx)(f:Value)(r:List V→Hp→VK→Prop):Prop:=
 ∀(pins:List (Addr×Obj)) (s:Shared) (σ:St) (H:Hp) (xs:List V) (us:List Value) (Q:VK),Inv X pins σ H s→Vals xs us→r xs H Q→
  wpAny (model X.prog X.w) X.A (call f us) (EP X pins σ Q) X.xe s
def MJ(X:Cx)(r:V→Hp→(Bool→Hp→Prop)→Prop):Prop:=
 ∀(pins:List (Addr×Obj)) (s:Shared) (σ:St) (H:Hp) (x:V) (v:Value) (Q:Bool→Hp→Prop),Inv X pins σ H s→RelV x v→r x H Q→
  wpAny (model X.prog X.w) X.A (truthy v) (TP X pins σ Q) X.xe s
def LZ(r:R2)(ta tb:TE):TE:=fun σ H Q=>ta σ H fun x H1=>tb σ H1 fun y H2=>r x y H2 Q
def RD(r:V→Hp→VK→Prop)(ta:TE):TE:=fun σ H Q=>ta σ H fun x H1=>r x H1 Q
def rI(C:Int→Int→Prop)(g:Int→Int→V):R2:=fun x y H Q=>∃i j,x= .int i∧y= .int j∧C i j∧Q (g i j) H
def AL(g:Int→Int→V):R2:=fun x y H Q=>∃i j,x= .int i∧y= .int j∧Q (g i j) H
def rU(g:Int→V):V→Hp→VK→Prop:=fun x H Q=>∃i,x= .int i∧Q (g i) H
section
variable{X:Cx}{a b c:Expr}{ta tb tc:TE}{pos:Pos}
theorem Hl(ha:PE X a ta)(hb:PE X b tb){pins:List (Addr×Obj)}{s:Shared}{σ:St}{H:Hp}{R:V→V→Hp→Prop}(I:Inv X pins σ H s)
 (h:ta σ H fun x H1=>tb σ H1 fun y H2=>R x y H2){Q:Value→Shared→Prop}{f:Value→Value→Sem Value}
 (hf:∀v u s2 x y H2,Inv X pins σ H2 s2→RelV x v→RelV y u→R x y H2→wpAny (model X.prog X.w) X.A (f v u) Q X.xe s2):
 wpAny (model X.prog X.w) X.A (eval a X.env) (fun v s₁=>wpAny (model X.prog X.w) X.A (eval b X.env) (fun u s₂=>wpAny (model X.prog X.w) X.A (f v u) Q X.xe s₂) X.xe s₁) X.xe s:=by
 refine b5 (ha pins s σ H _ I h) fun v s1 ⟨x,H1,I1,r1,q1⟩=>?_
 refine b5 (hb pins s1 σ H1 _ I1 q1) fun u s2 ⟨y,H2,I2,r2,q2⟩=>?_
 exact hf v u s2 x y H2 I2 r1 r2 q2
theorem Lz{op:Operator}{r:R2}(ho:OpR X (binaryOp op) r)(ha:PE X a ta)(hb:PE X b tb):PE X (.BinOp a op b pos) (LZ r ta tb):=by
 intro pins s σ H Q I h
 exact wpAny_BinOp (Hl ha hb I h fun v u s2 x y H2 I2 rx ry q=>ho pins s2 σ H2 x y v u Q I2 rx ry q)
theorem LA{op:UnaryOp}{r:V→Hp→VK→Prop}(ho:MK X (unaryOp op) r)(ha:PE X a ta):PE X (.UnaryOp op a pos) (RD r ta):=by
 intro pins s σ H Q I h
 exact UnaryOp_ (b5 (ha pins s σ H _ I h) fun v s1 ⟨x,H1,I1,r1,q1⟩=>ho pins s1 σ H1 x v Q I1 r1 q1)
theorem N_{f:Value→Value→Sem Value}{C:Int→Int→Prop}{g:Int→Int→Int}
 (rule:∀(i j:Int) (t u:Tok) (s:Shared) (Q:Value→Shared→Prop) (E:Value→Shared→Prop),C i j→Q (.int (g i j) s.toks) {s with toks:=s.toks+1}→wpAny (model X.prog X.w) X.A (f (.int i t) (.int j u)) Q E s):
 OpR X f (rI C fun i j=> .int (g i j)):=by
 intro pins s σ H x y v u Q I rx ry h
 obtain⟨i,j,rfl,rfl,hc,q⟩:=h
 obtain⟨t,rfl⟩:=rx
 obtain⟨t',rfl⟩:=ry
 exact rule i j t t' s _ _ hc ⟨.int (g i j),H,I.tok _,⟨_,rfl⟩,q⟩
theorem Lq{f:Value→Value→Sem Value}{g:Int→Int→Int}
 (rule:∀(i j:Int) (t u:Tok) (s:Shared) (Q:Value→Shared→Prop) (E:Value→Shared→Prop),Q (.int (g i j) s.toks) {s with toks:=s.toks+1}→wpAny (model X.prog X.w) X.A (f (.int i t) (.int j u)) Q E s):
 OpR X f (AL fun i j=> .int (g i j)):=by
 intro pins s σ H x y v u Q I rx ry h
 obtain⟨i,j,rfl,rfl,q⟩:=h
 obtain⟨t,rfl⟩:=rx
 obtain⟨t',rfl⟩:=ry
 exact rule i j t t' s _ _ ⟨.int (g i j),H,I.tok _,⟨_,rfl⟩,q⟩
theorem Lp{f:Value→Value→Sem Value}{g:Int→Int→Bool}
 (rule:∀(i j:Int) (t u:Tok) (s:Shared) (Q:Value→Shared→Prop) (E:Value→Shared→Prop),Q (.bool (g i j)) s→wpAny (model X.prog X.w) X.A (f (.int i t) (.int j u)) Q E s):
 OpR X f (AL fun i j=> .bl (g i j)):=by
 intro pins s σ H x y v u Q I rx ry h
 obtain⟨i,j,rfl,rfl,q⟩:=h
 obtain⟨t,rfl⟩:=rx
 obtain⟨t',rfl⟩:=ry
 exact rule i j t t' s _ _ ⟨.bl (g i j),H,I,rfl,q⟩
def J1(i j:Int):Prop:=0<j∧j<1073741824
def CMul(i j:Int):Prop:=(-(2 ^ 64)<i∧i<2 ^ 64)∨(-(2 ^ 64)<j∧j<2 ^ 64)
theorem CMul.ok{i j:Int}(h:CMul i j):IntMulOk i j:=by
 rcases h with⟨h1,h2⟩ | ⟨h1,h2⟩
 ·exact .of_left (intBits_le_64 h1 h2)
 ·exact .of_right (intBits_le_64 h1 h2)
theorem IJ:OpR X (binaryOp .Add) (AL fun i j=> .int (i+j)):=Lq fun _ _ _ _ _ _ _ q=>add_int q
theorem IQ:OpR X (binaryOp .Sub) (AL fun i j=> .int (i - j)):=Lq fun _ _ _ _ _ _ _ q=>sub_int q
theorem IM:OpR X (binaryOp .Mult) (rI CMul fun i j=> .int (i*j)):=N_ fun _ _ _ _ _ _ _ hc q=>mul_int q hc.ok
theorem Fy:OpR X (binaryOp .FloorDiv) (rI J1 fun i j=> .int (i / j)):=N_ fun i j _ _ _ _ _ hc q=>by
 have h1:(0:Int)<j:=hc.1
 have h2:j<1073741824:=hc.2
 exact floordiv_int (by omega) (by rw[Int.fdiv_eq_ediv_of_nonneg i (by omega)];exact q) (.inl (PyProof.noPylong_small (by omega)))
theorem IL:OpR X (binaryOp .Mod) (rI (fun _ j=>0<j) fun i j=> .int (i % j)):=N_ fun i j _ _ _ _ _ hc q=>by
 have h1:(0:Int)<j:=hc
 exact mod_int' (by omega) (by rw[Int.fmod_eq_emod_of_nonneg i (by omega)];exact q)
theorem RF{f:Value→Sem Value}{g:Int→Int}
 (rule:∀(i:Int) (t:Tok) (s:Shared) (Q:Value→Shared→Prop) (E:Value→Shared→Prop),Q (.int (g i) s.toks) {s with toks:=s.toks+1}→wpAny (model X.prog X.w) X.A (f (.int i t)) Q E s):
 MK X f (rU fun i=> .int (g i)):=by
 intro pins s σ H x v Q I rx h
 obtain⟨i,rfl,q⟩:=h
 obtain⟨t,rfl⟩:=rx
 exact rule i t s _ _ ⟨.int (g i),H,I.tok _,⟨_,rfl⟩,q⟩
theorem JJ:MK X (unaryOp .USub) (rU fun i=> .int (-i)):=RF fun _ _ _ _ _ q=>neg_int q
end
section
variable{X:Cx}{a b c:Expr}{ta tb tc:TE}{pos:Pos}
theorem Hv{pins:List (Addr×Obj)}{σ:St}{H:Hp}{s:Shared}{Q:VK}{k k':Bool}(I:Inv X pins σ H s)(q:Q (.bl k) H)(e:k=k'):EP X pins σ Q (.bool k') s:=by
 subst e
 exact⟨.bl k,H,I,rfl,q⟩
theorem Ha:OpR X (compareOp .Lt) (AL fun i j=> .bl (decide (i<j))):=Lp fun _ _ _ _ _ _ _ q=>lt_int q
theorem oA:OpR X (compareOp .LtE) (AL fun i j=> .bl (decide (i≤j))):=Lp fun _ _ _ _ _ _ _ q=>le_int q
theorem qK:OpR X (compareOp .In) (fun x y H Q=>∃i j,x= .str i∧y= .str j∧Q (.bl (!(Builtin.Str.occurrences j i 0 j.length 1).isEmpty)) H):=by
 intro pins s σ H x y v u Q I rx ry h
 obtain⟨i,j,rfl,rfl,q⟩:=h
 obtain⟨t,rfl⟩:=rx
 obtain⟨t',rfl⟩:=ry
 exact in_str (Hv I q rfl)
theorem OpR.or{f:Value→Value→Sem Value}{r r':R2}(h:OpR X f r)(h':OpR X f r'):OpR X f (fun x y H Q=>r x y H Q∨r' x y H Q):=by
 intro pins s σ H x y v u Q I rx ry q
 rcases q with q | q
 ·exact h pins s σ H x y v u Q I rx ry q
 ·exact h' pins s σ H x y v u Q I rx ry q
theorem CU(b:Expr){op:CmpOp}(h:op≠ .In:=by decide)(h2:op≠ .NotIn:=by decide):behindInMarks op b=false:=by
 have e1:(op==CmpOp.In)=false:=by cases op<;>first | rfl | exact absurd rfl h
 have e2:(op==CmpOp.NotIn)=false:=by cases op<;>first | rfl | exact absurd rfl h2
 cases b<;>simp[behindInMarks,e1,e2]
theorem FR{op:CmpOp}{r:R2}(ho:OpR X (compareOp op) r)(ha:PE X a ta)(hb:PE X b tb)(hm:behindInMarks op b=false):PE X (.Compare a [op] [b] pos) (LZ r ta tb):=by
 intro pins s σ H Q I h
 exact wpAny_Compare1 (Hl ha hb I h fun v u s2 x y H2 I2 rx ry q=>ho pins s2 σ H2 x y v u Q I2 rx ry q) hm
def He(t:TE):TT:=fun σ H Q=>t σ H fun x H'=>∃k,x= .bl k∧Q k H'
theorem F7{op:CmpOp}{r:R2}(ho:OpR X (compareOp op) r)(ha:PE X a ta)(hb:PE X b tb)(hm:behindInMarks op b=false):PT X (.Compare a [op] [b] pos) (He (LZ r ta tb)):=by
 intro pins s σ H Q I h
 refine wpAny_isTrue_Compare1 (b5 (ha pins s σ H _ I h) fun v s1 ⟨x,H1,I1,r1,q1⟩=>b5 (hb pins s1 σ H1 _ I1 q1) fun u s2 ⟨y,H2,I2,r2,q2⟩=>
  b5 (ho pins s2 σ H2 x y v u _ I2 r1 r2 q2) fun c s3 ⟨z,H3,I3,r3,k,e,q3⟩=>?_) hm
 subst e
 cases r3
 exact wpAny_truthy_bool ⟨H3,I3,q3⟩
def xO(r r':R2)(ta tb tc:TE):TE:=fun σ H Q=>ta σ H fun x H1=>tb σ H1 fun y H2=>r x y H2 fun z H3=>∃k,z= .bl k∧
 (if k=true then tc σ H3 fun w' H4=>r' y w' H4 Q else Q (.bl false) H3)
theorem Dp{op xk:CmpOp}{r r':R2}(ho:OpR X (compareOp op) r)(qk:OpR X (compareOp xk) r')(ha:PE X a ta)(hb:PE X b tb)(hc:PE X c tc)
 (hm:lastMarks [op,xk] [b,c]=false:=by with_unfolding_all rfl):PE X (.Compare a [op,xk] [b,c] pos) (xO r r' ta tb tc):=by
 intro pins s σ H Q I h
 refine Compare_chain (b5 (ha pins s σ H _ I h) fun v s1 ⟨x,H1,I1,r1,q1⟩=>chain_link (b5 (hb pins s1 σ H1 _ I1 q1) fun u s2 ⟨y,H2,I2,r2,q2⟩=>
  b5 (ho pins s2 σ H2 x y v u _ I2 r1 r2 q2) fun d s3 ⟨z,H3,I3,r3,k,e,q3⟩=>?_)) hm
 subst e
 cases r3
 refine wpAny_truthy_bool ?_
 cases k with
 |false=>exact ite_ff ⟨.bl false,H3,I3,rfl,q3⟩
 |true=>exact ite_tt (chain_last (b5 (hc pins s3 σ H3 _ I3 q3) fun w' s4 ⟨z',H4,I4,r4,q4⟩=>qk pins s4 σ H4 y z' u w' Q I4 r2 r4 q4))
theorem Dx{op xk:CmpOp}{r r':R2}(ho:OpR X (compareOp op) r)(qk:OpR X (compareOp xk) r')(ha:PE X a ta)(hb:PE X b tb)(hc:PE X c tc)
 (hm:lastMarks [op,xk] [b,c]=false:=by with_unfolding_all rfl):PT X (.Compare a [op,xk] [b,c] pos) (He (xO r r' ta tb tc)):=by
 intro pins s σ H Q I h
 refine isTrue_chain (b5 (ha pins s σ H _ I h) fun v s1 ⟨x,H1,I1,r1,q1⟩=>test_link (b5 (hb pins s1 σ H1 _ I1 q1) fun u s2 ⟨y,H2,I2,r2,q2⟩=>
  b5 (ho pins s2 σ H2 x y v u _ I2 r1 r2 q2) fun d s3 ⟨z,H3,I3,r3,k,e,q3⟩=>?_)) hm
 subst e
 cases r3
 refine wpAny_truthy_bool ?_
 cases k with
 |false=>
  obtain⟨k',e',q'⟩:=q3
  cases e'
  exact ite_ff ⟨H3,I3,q'⟩
 |true=>
  refine ite_tt (test_last (b5 (hc pins s3 σ H3 _ I3 q3) fun w' s4 ⟨z',H4,I4,r4,q4⟩=>b5 (qk pins s4 σ H4 y z' u w' _ I4 r2 r4 q4) fun d' s5 ⟨z2,H5,I5,r5,k2,e2,q5⟩=>?_))
  subst e2
  cases r5
  exact wpAny_truthy_bool ⟨H5,I5,q5⟩
def J7(K:W.Frag)(x:V)(H:Hp)(k:Bool):Prop:=
 match x with
 | .non=>k=false
 | .bl b=>k=b
 | .int i=>k=(i !=0)
 | .str y=>y.length≤sizeLine∧k=((y.length:Int) !=0)
 | .byt y=>y.size≤sizeLine∧k=((y.size:Int) !=0)
 | .ref p=>(∃xs,SqL K H p xs∧k=!xs.isEmpty)∨(∃xs,SqT K H p xs∧k=!xs.isEmpty)∨∃ar,H p=some (.dK ar)∧k=!ar.isEmpty
 |_=>False
theorem wM{κ:Type}{ar:List (κ×V)}{vs:List (κ×Value)}(r:KV ar vs):(!vs.isEmpty)=!ar.isEmpty:=by
 cases r<;>rfl
theorem nP{xs:List V}{aD:List Value}(r:Vals xs aD):(!aD.toArray.isEmpty)=!xs.isEmpty:=by
 cases r<;>simp
theorem ll:(sizeLine:Nat)<2 ^ 63:=by rw[sizeLine_eq];decide
theorem JH:MJ X (fun x H Q=>∃k,J7 X.K x H k∧Q k H):=by
 intro pins s σ H x v Q I rx h
 obtain⟨k,e,q⟩:=h
 have hl:=ll
 have hs:sizeLine=16777216:=sizeLine_eq
 cases x with
 |non=>
  cases rx
  have e':k=false:=e
  subst e'
  exact truthy_none ⟨H,I,q⟩
 |bl b=>
  cases rx
  have e':k=b:=e
  subst e'
  exact wpAny_truthy_bool ⟨H,I,q⟩
 |int i=>
  obtain⟨t,rfl⟩:=rx
  have e':k=(i !=0):=e
  subst e'
  exact PySem.P.truthy_int ⟨H,I,q⟩
 |str y=>
  obtain⟨t,rfl⟩:=rx
  obtain⟨hy,e'⟩:y.length≤sizeLine∧k=((y.length:Int) !=0):=e
  subst e'
  exact PySem.P.truthy_str (by omega) ⟨H,I.tok _,q⟩
 |byt y=>
  obtain⟨t,rfl⟩:=rx
  obtain⟨hy,e'⟩:y.size≤sizeLine∧k=((y.size:Int) !=0):=e
  subst e'
  exact PySem.W.truthy_bytes (by omega) ⟨H,I.tok _,q⟩
 |ref p=>
  cases rx
  have e':(∃xs,SqL X.K H p xs∧k=!xs.isEmpty)∨(∃xs,SqT X.K H p xs∧k=!xs.isEmpty)∨∃ar,H p=some (.dK ar)∧k=!ar.isEmpty:=e
  rcases e' with⟨xs,hx,e'⟩ | ⟨xs,hx,e'⟩ | ⟨ar,hx,e'⟩
  ·subst e'
   obtain⟨aD,r,pl,hz⟩:=I.list hx
   have hlen:=r.length
   exact wpAny_truthy_list pl.isList (by simp only[List.size_toArray];omega) ⟨H,I.tok _,by rw[nP r];exact q⟩
  ·subst e'
   obtain⟨aD,r,pl,hz⟩:=I.tuple hx
   have hlen:=r.length
   exact truthy_tuple pl (by simp only[List.size_toArray];omega) ⟨H,I.tok _,by rw[nP r];exact q⟩
  ·subst e'
   obtain⟨hz,hS,vs,r,m⟩:ar.length≤sizeLine∧(p==sysModules)=false∧∃vs,KV ar vs∧s.heap.DictOf (aY X.prog X.w) p vs:=I.hok p _ hx
   have hlen:ar.length=vs.length:=Paired.length r
   exact wpAny_truthy_dict hS m (by omega) ⟨H,I.tok _,by rw[wM r];exact q⟩
 |_=>exact(show False from e).elim
theorem Dy(ha:PE X a ta)(he:∀whole,isTrue a X.env whole=(do let v←whole;standAt a.pos;holding [v] (truthy v))):
 PT X a (fun σ H Q=>ta σ H fun x H'=>∃k,J7 X.K x H' k∧Q k H'):=by
 intro pins s σ H Q I h
 exact isTrue_plain (b5 (ha pins s σ H _ I h) fun v s1 ⟨x,H1,I1,r1,q1⟩=>JH pins s1 σ H1 x v Q I1 r1 q1) (he _)
theorem vals1{x:V}{us:List Value}(r:Vals [x] us):∃u,us=[u]∧RelV x u:=by
 cases r with
 |cons r1 r2=>cases r2;exact⟨_,rfl,r1⟩
theorem vals2{x y:V}{us:List Value}(r:Vals [x,y] us):∃u w',us=[u,w']∧RelV x u∧RelV y w':=by
 cases r with
 |cons r1 r2=>
  cases r2 with
  |cons r3 r4=>cases r4;exact⟨_,_,rfl,r1,r3⟩
theorem BC:CallR X (.builtin "abs") (fun xs H Q=>∃i,xs=[.int i]∧Q (.int (if i<0 then -i else i)) H):=by
 intro pins s σ H xs us Q I r h
 obtain⟨i,rfl,q⟩:=h
 obtain⟨u,rfl,t,rfl⟩:=vals1 r
 exact call_abs_int fun u tk=>⟨.int (if i<0 then -i else i),H,I.tok _,⟨_,rfl⟩,q⟩
theorem zw(hc:X.calm=true):CallR X (.builtin "max") (fun xs H Q=>∃i j,xs=[.int i, .int j]∧Q (.int (if j>i then j else i)) H):=by
 intro pins s σ H xs us Q I r h
 obtain⟨i,j,rfl,q⟩:=h
 obtain⟨u,w',rfl,⟨t,rfl⟩,⟨t',rfl⟩⟩:=vals2 r
 refine max_two_ints (I.ok.hd hc) fun h' tk k=>⟨_,H,I.kept k,?_,q⟩
 by_cases hj:j>i
 ·rw[if_pos hj,if_pos hj];exact⟨_,rfl⟩
 ·rw[if_neg hj,if_neg hj];exact⟨_,rfl⟩
theorem zx(hc:X.calm=true):CallR X (.builtin "min") (fun xs H Q=>∃i j,xs=[.int i, .int j]∧Q (.int (if j<i then j else i)) H):=by
 intro pins s σ H xs us Q I r h
 obtain⟨i,j,rfl,q⟩:=h
 obtain⟨u,w',rfl,⟨t,rfl⟩,⟨t',rfl⟩⟩:=vals2 r
 refine min_two_ints (I.ok.hd hc) fun h' tk k=>⟨_,H,I.kept k,?_,q⟩
 by_cases hj:j<i
 ·rw[if_pos hj,if_pos hj];exact⟨_,rfl⟩
 ·rw[if_neg hj,if_neg hj];exact⟨_,rfl⟩
end
structure ObjM (h:Heap) (x dx C:Addr) (mA:Str→Option Value):Prop where
 obj:h.get? x=some (PySem.W.instObj C dx)
 ns:h.Ns1 dx mA
 ne:dx≠x
theorem Ad{h:Heap}{dx:Addr}{mA:Str→Option Value}(n:h.Ns1 dx mA):∃od,h.get? dx=some od∧∀name,PySem.W.lookIn name od=some (mA name):=by
 obtain⟨o,es,ep,ho,hd,hk,_,hm⟩:=n
 refine⟨o,ho,fun name=>?_⟩
 have e:=hm name
 unfold nsFind findBy at e
 rw[←Array.find?_toList] at e
 unfold PySem.W.lookIn
 rw[hd]
 dsimp only
 split
 ·rename_i y q
  rw[q] at e
  exact congrArg some e
 ·rename_i q
  rw[q] at e
  have a:es.toList.any (·.refKey)=false:=by
   rw[List.any_eq_false]
   intro y hy
   obtain⟨z,t,zU⟩:=hk y (Array.mem_toList_iff.mp hy)
   simp[DictEntry.refKey,zU]
  have a':¬es.toList.any (·.refKey)=true:=by rw[a];exact Bool.false_ne_true
  rw[if_neg a']
  exact congrArg some e
theorem ObjM.look{h:Heap}{x dx C:Addr}{mA:Str→Option Value}(I:ObjM h x dx C mA):∃od,PySem.W.InstAt h x (PySem.W.instObj C dx) C (some od)∧∀name,PySem.W.lookIn name od=some (mA name):=
 let ⟨od,ho,hl⟩:=Ad I.ns
 ⟨od,⟨I.obj,rfl,rfl,ho⟩,hl⟩
section
variable{prog:Program}{w:World}{A:Around}{E:Value→Shared→Prop}{s:Shared}{K:W.Frag}{x dx C f:Addr}{mA:Str→Option Value}{name:Str}{v:Value}
end
theorem RelO.some_of{v:V}{o:Option Value}(r:RelO (some v) o):∃u,o=some u∧RelV v u:=by
 cases o with
 |none=>exact(show False from r).elim
 |some u=>exact⟨u,rfl,r⟩
section
variable{P:Program}{w:World}{H H':Hp}{h h':Heap}{a C dx:Addr}{fs MT:List (Str×V)}
theorem Fc(hok:HOk P w H h)(e:H a=some (.ins C dx fs)):∃mA,ObjM h a dx C mA∧(∀f,RelO (fs.lookup f) (mA f))∧PySem.Within mA (fs.map (·.1))∧fs.length≤1000∧H dx=some (.own a):=by
 obtain⟨d,z,ne,ob,mA,n,r,q⟩:=(show ObjOk P w H h a (.ins C dx fs) from hok a _ e)
 exact⟨mA,⟨ob,n,ne⟩,r,q,z,d⟩
end
structure Cls (K:W.Frag) (C:Addr):Prop where
 pg:PySem.W.plainGet K C Str.empty=true
 hd:PySem.W.hasDictIn K C=true
 po:PySem.W.plainOver K C=true
 sa:PySem.W.findIn K (.ref C) "__setattr__"=some (some (.builtin "object.__setattr__"))
theorem Cls.get{K:W.Frag}{C:Addr}(c:Cls K C)(f:Str):PySem.W.plainGet K C f=true:=c.pg
structure Con (K:W.Frag) (C:Addr) (f:Str) (v:V) (u:Value):Prop where
 at_:PySem.W.findIn K (.ref C) f=some (some u)
 rel:RelV v u
 get:PySem.W.specialIn K u "__get__"=some none
 cp:PySem.W.copiedNames.contains f=false
structure Meth (K:W.Frag) (C:Addr) (m:Str) (f:Addr):Prop where
 at_:PySem.W.findIn K (.ref C) m=some (some (.ref f))
 fn:PySem.W.isFn K (.ref f)=true
 kp:PySem.W.keepIn K (.ref f)=true
section
variable{X:Cx}{pins:List (Addr×Obj)}{σ:St}{H:Hp}{s:Shared}{a C dx:Addr}{fs:List (Str×V)}{f:Str}{v:V}{A:Around}{E:Value→Shared→Prop}
end
section
variable{X:Cx}{o e value:Expr}{f:Str}{pos pos' OB:Pos}{ta tv:TE}
end
section
variable{X:Cx}{pins:List (Addr×Obj)}{σ:St}{H:Hp}{s:Shared}{A:Around}{E:Value→Shared→Prop}{Q:Value→Shared→Prop}{c:Value}{b:Bool}
inductive TyOf (K:W.Frag) (H:Hp):V→Value→Prop where
 |non:TyOf K H .non (.type "NoneType")
 |bl (x:Bool):TyOf K H (.bl x) (.type "bool")
 |int (i:Int):TyOf K H (.int i) (.type "int")
 |str (x:Str):TyOf K H (.str x) (.type "str")
 |flt (x:UInt64):TyOf K H (.flt x) (.type "float")
 |lst {a:Addr}{xs:List V}(e:H a=some (.lst xs)):TyOf K H (.ref a) (.type "list")
 |frz {a:Addr}{o:Obj}{xs:List V}(e:H a=some (.frz o (.lst xs))):TyOf K H (.ref a) (.type "list")
 |tup {a:Addr}{xs:List V}(e:H a=some (.tup xs)):TyOf K H (.ref a) (.type "tuple")
 |dK {a:Addr}{ar:List (Key×V)}(e:H a=some (.dK ar)):TyOf K H (.ref a) (.type "dict")
 |dT {a:Addr}{ar:List (List Key×V)}(e:H a=some (.dT ar)):TyOf K H (.ref a) (.type "dict")
 |ins {a C dx:Addr}{fs:List (Str×V)}(e:H a=some (.ins C dx fs)) (cl:Cls K C) (ha:PySem.W.findIn K (.ref C) "__class__"=some (some (.builtin "object.__class__")))
   (hn:PySem.W.specialIn K (.builtin "object.__class__") "__get__"=some (some (.builtin "getset_descriptor.__get__"))) (Pk:PySem.W.takesIn K (.builtin "object.__class__")=some true)
   (hm:PySem.W.mroIn K C (.type "object")=some true):TyOf K H (.ref a) (.ref C)
theorem z6{x:V}{u t:Value}(I:Inv X pins σ H s)(rx:RelV x u)(ty:TyOf X.K H x t)(e:PySem.W.kitOne X.K t c=some b)(h:∀tk,Q (.bool b) {s with toks:=tk}):
 wpAny (model X.prog X.w) A (call (.builtin "isinstance") [u,c]) Q E s:=by
 cases ty with
 |non=>cases (show u=Value.none from rx);exact PySem.W.kia_one PySem.W.kitx_none I.kIn True.intro e (fun z=>nomatch z) h
 |bl y=>cases (show u=Value.bool y from rx);exact PySem.W.kia_one PySem.W.kitx_bool I.kIn True.intro e (fun z=>nomatch z) h
 |int i=>obtain⟨t,q⟩:=(show∃t,u=Value.int i t from rx);cases q;exact PySem.W.kia_one PySem.W.kitx_int I.kIn True.intro e (fun z=>nomatch z) h
 |str y=>obtain⟨t,q⟩:=(show∃t,u=Value.str y t from rx);cases q;exact PySem.W.kia_one PySem.W.kitx_str I.kIn True.intro e (fun z=>nomatch z) h
 |flt y=>obtain⟨t,q⟩:=(show∃t,u=Value.float y t from rx);cases q;exact PySem.W.kia_one PySem.W.kitx_float I.kIn True.intro e (fun z=>nomatch z) h
 | @lst a xs ea=>
   cases (show u=Value.ref a from rx)
   obtain⟨_,_,n,_,h1⟩:=(show ObjOk X.prog X.w H s.heap a (.lst xs) from I.hok a _ ea)
   exact PySem.W.kia_one PySem.W.kitx_list I.kIn ⟨_,h1,rfl⟩ e (fun z=>nomatch z) h
 | @frz a ob xs ea=>
   cases (show u=Value.ref a from rx)
   obtain⟨_,_,_,n,_,h1⟩:=(show ObjOk X.prog X.w H s.heap a (.frz ob (.lst xs)) from I.hok a _ ea)
   exact PySem.W.kia_one PySem.W.kitx_list I.kIn ⟨_,h1,rfl⟩ e (fun z=>nomatch z) h
 | @tup a xs ea=>
   cases (show u=Value.ref a from rx)
   obtain⟨_,_,_,p⟩:=(show ObjOk X.prog X.w H s.heap a (.tup xs) from I.hok a _ ea)
   obtain⟨o,h1,h2,_⟩:=p
   exact PySem.W.kia_one PySem.W.kitx_tuple I.kIn ⟨o,h1,h2⟩ e (fun z=>nomatch z) h
 | @dK a ar ea=>
   cases (show u=Value.ref a from rx)
   obtain⟨_,_,vs,_,p⟩:=(show ObjOk X.prog X.w H s.heap a (.dK ar) from I.hok a _ ea)
   obtain⟨o,es,ep,h1,h2,_⟩:=p
   exact PySem.W.kia_one PySem.W.kitx_dict I.kIn ⟨o,h1,h2.1⟩ e (fun z=>nomatch z) h
 | @dT a ar ea=>
   cases (show u=Value.ref a from rx)
   obtain⟨_,_,xs,_,o,es,ep,h1,h2,_⟩:=(show ObjOk X.prog X.w H s.heap a (.dT ar) from I.hok a _ ea)
   exact PySem.W.kia_one PySem.W.kitx_dict I.kIn ⟨o,h1,h2.1⟩ e (fun z=>nomatch z) h
 | @ins a C dx fs ea cl ha hn Pk hm=>
   cases (show u=Value.ref a from rx)
   obtain⟨mA,O,_⟩:=Fc I.hok ea
   obtain⟨od,J,_⟩:=O.look
   exact PySem.W.kia_one (PySem.W.kitx_own (cl.get _) cl.hd ha hn Pk hm) I.kIn J e (fun z=>nomatch z) h
end
structure Room (k:Nat) (A:Around):Prop where
 hd:A.handled=none
 dp:A.depth+3*k+5<recursionLimit
 un:A.units+16*k+200<cLine
theorem Room.mono{j k:Nat}{A:Around}(r:Room k A)(h:j≤k):Room j A:=⟨r.hd,by have:=r.dp;omega,by have:=r.un;omega⟩
theorem Room.deeper{k:Nat}{A:Around}(r:Room (k+1) A)(env:Env):Room k (A.deeper env):=
 ⟨r.hd,by have:=r.dp;show A.depth+1+3*k+5<_;omega,by have:=r.un;show A.units+3+16*k+200<_;omega⟩
theorem Room.depth{k:Nat}{A:Around}(r:Room k A):A.depth<recursionLimit:=by have:=r.dp;omega
theorem Room.units{k:Nat}{A:Around}(r:Room k A):A.units+64<cLine:=by have:=r.un;omega
def JE:TA:=fun _ H Q=>Q [] H
def Ec(ta:TE)(tr:TA):TA:=fun σ H Q=>ta σ H fun x H1=>tr σ H1 fun xs H2=>Q (x::xs) H2
section
variable{X:Cx}{e:Expr}{es:List Expr}{te:TE}{t:TA}{pos:Pos}
theorem sM:PA X [] JE:=fun _ _ _ _ H Q I h=>Calls.spliced_nil ⟨[],H,I, .nil,h⟩
theorem sL(ha:PE X e te)(hr:PA X es t)(hs:starEach (e::es) X.env=(false,eval e X.env)::starEach es X.env:=by rfl):PA X (e::es) (Ec te t):=by
 intro pos pins s σ H Q I h
 rw[hs]
 show wpAny _ _ (spliced ((false,eval e X.env)::backTo pos (starEach es X.env))) _ _ s
 refine Calls.spliced_cons (b5 (ha pins s σ H _ I h) fun u s1 ⟨x,H1,I1,r1,q1⟩=>?_)
 exact b5 (hr pos pins s1 σ H1 _ I1 q1) fun us s2 ⟨xs,H2,I2,r2,q2⟩=>⟨x::xs,H2,I2, .cons r1 r2,q2⟩
def OA(t:TA):TE:=fun σ H Q=>t σ H fun xs H1=>xs.length≤sizeLine∧∀p,H1 p=none→Q (.ref p) (upd H1 p (.tup xs))
def Ow(t:TA):TE:=fun σ H Q=>t σ H fun xs H1=>xs.length≤sizeLine∧∀p,H1 p=none→Q (.ref p) (upd H1 p (.lst xs))
theorem Jg{x1}(h:PA X es t):PE X (.Tuple es x1 pos) (OA t):=by
 intro pins s σ H Q I hq
 refine wpAny_Tuple_spliced (b5 (h pos pins s σ H _ I hq) fun us s1 ⟨xs,H1,I1,r,z,q⟩=>⟨by rw[←r.length];exact z,?_⟩)
 have hf:H1 s1.heap.objs.size=none:=I1.hok.fresh (Nat.le_refl _)
 refine⟨.ref s1.heap.objs.size,upd H1 s1.heap.objs.size (.tup xs),I1.laid (t':=s1.toks) (fun b u e=>Heap.get?_push_of_some _ e) (Nat.le_refl _) ?_,rfl,q _ hf⟩
 exact⟨z,us,r,⟨_,Heap.get?_push_size _ rfl,rfl,_,rfl⟩⟩
theorem Dr(h:PA X es t):PE X (.List es pos) (Ow t):=by
 intro pins s σ H Q I hq
 refine wpAny_List_spliced (b5 (h pos pins s σ H _ I hq) fun us s1 ⟨xs,H1,I1,r,z,q⟩=>⟨by rw[←r.length];exact z,?_⟩)
 have hf:H1 s1.heap.objs.size=none:=I1.hok.fresh (Nat.le_refl _)
 refine⟨.ref s1.heap.objs.size,upd H1 s1.heap.objs.size (.lst xs),I1.laid (t':=s1.toks) (fun b u e=>Heap.get?_push_of_some _ e) (Nat.le_refl _) ?_,rfl,q _ hf⟩
 exact⟨z,us,0,r,Heap.get?_push_size _ rfl⟩
end
abbrev Sp:=List V→Hp→VK→XK→Prop
abbrev v5:=List Env→Hp→Shared→XK→Value→Shared→Prop
structure Env0 (P:Program) (w:World) (K:W.Frag) (mg:Str→Option Value) (base:Heap) (A:Around) (outer:List Env) (s:Shared) (H:Hp):Prop where
 frames:A.frames=some outer
 mod:Mod K mg base
 bs:∀b o,base.get? b=some o→s.heap.get? b=some o∧H b=none
 bsz:base.objs.size≤s.heap.objs.size
 funs:s.heap.FunFrames base outer
 frf:∀b∈mR outer,H b=none
 hok:HOk P w H s.heap
 bare:AllBare s.gens
def CE(outer:List Env)(P:Program)(w:World)(H:Hp)(s:Shared)(Q:VK)(u:Value)(s':Shared):Prop:=
 ∃v H',s'.os=s.os∧AllBare s'.gens∧Un (mR outer) [] H H' s.heap s'.heap∧HOk P w H' s'.heap∧RelV v u∧Q v H'
def CR(CX:v5)(outer:List Env)(P:Program)(w:World)(H:Hp)(s:Shared)(Q:VK)(E:XK)(r:Result)(s':Shared):Prop:=
 match r with
 | .ok (.ret u)=>CE outer P w H s Q u s'
 | .ok _=>False
 | .error e=>CX outer H s E e s'
structure FnOk (P:Program) (w:World) (K:W.Frag) (mg:Str→Option Value) (base:Heap) (CX:v5) (k:Nat) (f:Addr) (fd:FuncData) (ps:List Str) (sp:Sp):Prop where
 len:∀vs H Q E,sp vs H Q E→vs.length=ps.length
 run:∀(A:Around) (outer:List Env) (s:Shared) (H:Hp) (args:Args) (us:List Value) (vs:List V) (Q:VK) (E:XK),Room k A→Env0 P w K mg base A outer s H→BindsTo s fd args (ps.zip us)→Vals vs us→sp vs H Q E→
  codeAny (model P w) A (.call (.ref f) args) (CR CX outer P w H s Q E) s
theorem FnOk.mono{P:Program}{w:World}{K:W.Frag}{mg:Str→Option Value}{base:Heap}{CX:v5}{j k:Nat}{f:Addr}{fd:FuncData}{ps:List Str}{sp:Sp}(F:FnOk P w K mg base CX j f fd ps sp)(h:j≤k):
 FnOk P w K mg base CX k f fd ps sp:=⟨F.len,fun A outer s H args us vs Q E hr=>F.run A outer s H args us vs Q E (hr.mono h)⟩
section
variable{X:Cx}{pins:List (Addr×Obj)}{σ:St}{H:Hp}{s s':Shared}
theorem Inv.env0(I:Inv X pins σ H s):Env0 X.prog X.w X.K X.mg X.base X.A X.stack s H:=
 ⟨I.ok.frames,I.ok.mod,I.bs,Nat.le_trans I.ok.bsz I.sz,I.stack,I.stkFree,I.hok,I.bare⟩
theorem Inv.after{Q:VK}{u:Value}(I:Inv X pins σ H s)(h:CE X.stack X.prog X.w H s Q u s'):EP X pins σ Q u s':=by
 obtain⟨v,H',os,bare,un,hok,r,q⟩:=h
 obtain⟨hh,g,d,t,Lr⟩:=s'
 obtain rfl:Lr=s.os:=os
 exact⟨v,H',I.call (h':=hh) (g':=g) (d':=d) (t':=t) (ch:=[]) un hok bare (fun b z=>absurd z (by simp)),r,q⟩
end
def LV(sp:Sp)(GJ:List V)(E:XK)(t:TA):TE:=fun σ H Q=>t σ H fun vs H1=>sp (vs++GJ) H1 Q E
def Binds(K:W.Frag)(fd:FuncData)(ps:List Str)(ds:List Value):Prop:=
 ∀(s:Shared) (us:List Value),K.In s.heap→(us++ds).length=ps.length→BindsTo s fd ⟨us,[]⟩ (ps.zip (us++ds))
theorem Binds.all{K:W.Frag}{fd:FuncData}{ps:List Str}(h:∀us:List Value,us.length=ps.length→bindArgs fd ⟨us,[]⟩=pure (ps.zip us)):Binds K fd ps []:=fun s us _ hl=>by
 rw[List.append_nil] at hl⊢
 exact .of_eq (h us hl)
def Passes(CX:v5)(X:Cx)(E:XK):Prop:=∀(pins:List (Addr×Obj)) (σ:St) (H:Hp) (s:Shared) (e:Value) (s':Shared),Inv X pins σ H s→CX X.stack H s E e s'→X.xe e s'
section
variable{X:Cx}{CX:v5}{k:Nat}{f C:Addr}{fd:FuncData}{ps:List Str}{sp:Sp}{GJ:List V}{ds:List Value}{E:XK}{x m:Str}{p pos apos:Pos}{e o:Expr}{es:List Expr}{ta:TE}{t:TA}
theorem Ju{pins:List (Addr×Obj)}{σ:St}{H:Hp}{s:Shared}{Q:VK}{us:List Value}{vs:List V}(F:FnOk X.prog X.w X.K X.mg X.base CX k f fd ps sp)(hr:Room k X.A)(hb:Binds X.K fd ps ds)(hd:Vals GJ ds)(hx:Passes CX X E)
 (I:Inv X pins σ H s)(r:Vals vs us)(h:sp (vs++GJ) H Q E):wpAny (model X.prog X.w) X.A (call (.ref f) us) (EP X pins σ Q) X.xe s:=by
 have r2:Vals (vs++GJ) (us++ds):=r.append hd
 have hl:(us++ds).length=ps.length:=by rw[←r2.length];exact F.len _ _ _ _ h
 refine wpAny_call (codeAny_mono (F.run X.A X.stack s H ⟨us,[]⟩ (us++ds) (vs++GJ) Q E hr I.env0 (hb s us I.kIn hl) r2 h) fun r s' hq=>?_)
 cases r with
 |error e=>exact hx pins σ H s e s' I hq
 |ok fl=>
  cases fl with
  |ret u=>exact I.after hq
  |next=>exact False.elim hq
  |brk=>exact False.elim hq
  |cont=>exact False.elim hq
theorem FQ(F:FnOk X.prog X.w X.K X.mg X.base CX k f fd ps sp)(hr:Room k X.A)(hg:Gl X x)(hm:X.mg x=some (.ref f))(hk:PySem.W.keepIn X.K (.ref f)=true)(hb:Binds X.K fd ps ds)(hd:Vals GJ ds)(hx:Passes CX X E)
 (ha:PA X (e::es) t)(rS:(x==("__debug__":Str))=false:=by decide)(he:starEach (e::es) X.env=(false,eval e X.env)::starEach es X.env:=by rfl)(k8:(backTo pos (starEach es X.env)).any (·.1)=false:=by rfl):
 PE X (.Call (.Name x p) (e::es) [] pos) (LV sp GJ E t):=by
 intro pins s σ H Q I h
 refine wpAny_Call_Name_kw (yH I hg hm ?_ rS)
 refine PySem.W.callWith_K (h₀:=X.base) I.ok.mod.kin hk (b5 (ha pos pins s σ H _ I h) fun us s1 ⟨vs,H1,I1,r,q⟩=>⟨I1.kIn,?_⟩) he k8
 exact Ju F hr hb hd hx I1 r q
structure Mk (K:W.Frag) (C f:Addr):Prop where
 makes:PySem.W.makesIn K C=true
 init:PySem.W.findIn K (.ref C) "__init__"=some (some (.ref f))
 fn:PySem.W.isFn K (.ref f)=true
 kp:PySem.W.keepIn K (.ref C)=true
end
section
variable{X:Cx}{CX:v5}{k:Nat}{f C:Addr}{fd:FuncData}{ps ks:List Str}{sp:Sp}{E:XK}{x m:Str}{p pos apos Rt:Pos}{e o:Expr}{es:List Expr}{RX:List Keyword}{te ta:TE}{t tk:TA}{nm:Option Str}
structure KBinds (K:W.Frag) (fd:FuncData) (ps ks:List Str) (g:List Value→List Value→List Value) (gV:List V→List V→List V):Prop where
 to:∀(s:Shared) (us ws:List Value),K.In s.heap→(g us ws).length=ps.length→BindsTo s fd ⟨us,ks.zip ws⟩ (ps.zip (g us ws))
 rel:∀{vs:List V}{us:List Value}{zs:List V}{ws:List Value},Vals vs us→Vals zs ws→Vals (gV vs zs) (g us ws)
variable{g:List Value→List Value→List Value}{gV:List V→List V→List V}
end
structure FnScope (N P:List Str) (sc:Scope):Prop where
 kind:sc.kind= .function
 co:sc.isCoroutine=false
 gen:sc.isGenerator=false
 nd:N.Nodup
 pre:N.take P.length=P
 par:∀x∈P,sc.names.lookup x=some .local∨sc.names.lookup x=some .cell
 nofree:∀y∈sc.names,y.2≠ .free
theorem p7{kindOf:Str→Option NameKind}{x:Str}:∀{binds:List (Str×Value)}{m:Str→Option Value},(∀v,(x,v)∉binds)→bindL kindOf binds m x=m x
 |[],_,_=>rfl
 |(n,v)::r,m,h=>by
  unfold bindL
  rw[p7 fun w hw=>h w (List.mem_cons_of_mem _ hw)]
  split
  ·have:x≠n:=by rintro rfl;exact h v List.mem_cons_self
   simp[this]
  ·rfl
theorem p5{kindOf:Str→Option NameKind}{x:Str}:∀{binds:List (Str×Value)}{m:Str→Option Value},(∀v,(x,v)∉binds)→bindC kindOf binds m x=m x
 |[],_,_=>rfl
 |(n,v)::r,m,h=>by
  unfold bindC
  rw[p5 fun w hw=>h w (List.mem_cons_of_mem _ hw)]
  split
  ·rfl
  ·have:x≠n:=by rintro rfl;exact h v List.mem_cons_self
   simp[this]
theorem p6{kindOf:Str→Option NameKind}{x:Str}{v:Value}:∀{P:List Str}{vs:List Value}{i:Nat}{m:Str→Option Value},P.Nodup→P[i]? =some x→vs[i]? =some v→kindOf x=some .local→
 bindL kindOf (P.zip vs) m x=some v
 |[],_,_,_,_,h,_,_=>by simp at h
 |_::_,[],_,_,_,_,h,_=>by simp at h
 |p::P,w::vs,0,m,nd,h1,h2,hk=>by
  simp at h1 h2;subst h1;subst h2
  show bindL kindOf ((p,w)::P.zip vs) m p=_
  unfold bindL
  rw[p7 fun v hv=>(List.nodup_cons.mp nd).1 (List.of_mem_zip hv).1,if_pos hk]
  simp
 |p::P,w::vs,i+1,m,nd,h1,h2,hk=>by
  show bindL kindOf ((p,w)::P.zip vs) m x=_
  unfold bindL
  exact p6 (i:=i) (List.nodup_cons.mp nd).2 (by simpa using h1) (by simpa using h2) hk
theorem p4{kindOf:Str→Option NameKind}{x:Str}{v:Value}:∀{P:List Str}{vs:List Value}{i:Nat}{m:Str→Option Value},P.Nodup→P[i]? =some x→vs[i]? =some v→kindOf x≠some .local→
 bindC kindOf (P.zip vs) m x=some v
 |[],_,_,_,_,h,_,_=>by simp at h
 |_::_,[],_,_,_,_,h,_=>by simp at h
 |p::P,w::vs,0,m,nd,h1,h2,hk=>by
  simp at h1 h2;subst h1;subst h2
  show bindC kindOf ((p,w)::P.zip vs) m p=_
  unfold bindC
  rw[p5 fun v hv=>(List.nodup_cons.mp nd).1 (List.of_mem_zip hv).1,if_neg hk]
  simp
 |p::P,w::vs,i+1,m,nd,h1,h2,hk=>by
  show bindC kindOf ((p,w)::P.zip vs) m x=_
  unfold bindC
  exact p4 (i:=i) (List.nodup_cons.mp nd).2 (by simpa using h1) (by simpa using h2) hk
def start(N:List Str)(vs:List V):St:=vs.map some++List.replicate (N.length - vs.length) none
def fQ(CX:v5)(P:Program)(w:World)(K:W.Frag)(mg:Str→Option Value)(base:Heap)(N:List Str)(qual:Str)(scope:Scope)(f:Addr)(cd:Value)(A:Around)(outer:List Env)(s:Shared)(H:Hp)(E:XK):Cx where
 prog:=P
 w:=w
 K:=K
 mg:=mg
 base:=base
 A:=A.deeper (envOfC qual scope s.heap.objs.size f cd)
 N:=N
 s₀:=s
 H₀:=H
 env:=envOfC qual scope s.heap.objs.size f cd
 outer:=outer
 stack:=envOfC qual scope s.heap.objs.size f cd::outer
 ex:=[]
 calm:=true
 fn:=fun _=>true
 pn:=[]
 xe:=fun e s'=>wpAny (model P w) (A.deeper (envOfC qual scope s.heap.objs.size f cd)) (leaving (envOfC qual scope s.heap.objs.size f cd) e) (fun _ Jx=>CX outer H s E e Jx) (fun e' Jx=>CX outer H s E e' Jx) s'
theorem t6{sc:Scope}{n:Nat}{x:Str}(h:sc.names.lookup x=some .cell):∃c,(cellsFrom n sc.names []).lookup x=some c:=by
 have q:=PySem.W.cellsFrom_some sc.names n [] (.inl h)
 exact Option.isSome_iff_exists.mp q
theorem zY{CX:v5}{P:Program}{w:World}{K:W.Frag}{mg:Str→Option Value}{base:Heap}{N ps:List Str}{qual:Str}{scope:Scope}{f:Addr}{cd:Value}{A:Around}{outer:List Env}{s s1:Shared}{H:Hp}{E:XK}{us:List Value}{vs:List V}
 (S:FnScope N ps scope)(hd:A.handled=none)(e0:Env0 P w K mg base A outer s H)(hl:vs.length=ps.length)(r:Vals vs us)
 (x:InCallC s s.heap.objs.size (bindL (envOfC qual scope s.heap.objs.size f cd).kindOf (ps.zip us) fun _=>none) (cellsFrom (s.heap.objs.size+1) scope.names []) (bindC (envOfC qual scope s.heap.objs.size f cd).kindOf (ps.zip us) fun _=>none) s1):
 Inv (fQ CX P w K mg base N qual scope f cd A outer s H E) [] (start N vs) H s1:=by
 have k8:ps.length≤N.length:=by have:=congrArg List.length S.pre;rw[List.length_take] at this;omega
 obtain⟨h1,tk,rfl,hk⟩:=x.done
 have Lj:∀b:Addr,b∉(fQ CX P w K mg base N qual scope f cd A outer s H E).ex:=fun b z=>absurd (show b∈([]:List Addr) from z) (by simp)
 refine⟨⟨e0.mod,S.kind,rfl,rfl,Nat.le_refl _,fun y z c h1 h2=>?_,fun y hy=>?_,fun y c _ h=>?_,fun _=>hd,Around.frames_deeper e0.frames, .inr ⟨rfl,rfl⟩,fun b z=>absurd z (Lj b),e0.bs,e0.bsz,fun b _ _=>Lj b,fun b z=>absurd z (Lj b),e0.funs,e0.frf⟩,
  rfl,e0.bare,Un.kept hk,⟨_,x.toInCall.ns,fun i y v h1 h2 h3=>?_⟩,fun y c h=>⟨_,x.cell y c h⟩,e0.hok.fresh (Nat.le_refl _),fun y c h=>?_,fun p hp=>absurd (show p∈([]:List (Addr×Obj)) from hp) (by simp),e0.hok.kept hk,?_⟩
 ·exact name_of_addr x.apart (PySem.mem_of_lookup h1) (PySem.mem_of_lookup h2)
 ·have hy:scope.names.lookup y=some .cell∨scope.names.lookup y=some .free:=hy
  rcases hy with hy | hy
  ·exact t6 hy
  ·exact absurd rfl (S.nofree _ (PySem.mem_of_lookup hy))
 ·exact Nat.le_of_lt (x.above y c (PySem.mem_of_lookup h))
 ·have hi:i<vs.length:=by
   unfold start at h2
   by_cases hi:i<vs.length
   ·exact hi
   ·rw[List.getElem?_append_right (by simpa using hi)] at h2
    rw[List.getElem?_replicate] at h2
    split at h2<;>cases h2
  have ha:vs[i]? =some v:=by
   unfold start at h2
   rw[List.getElem?_append_left (by simpa using hi),List.getElem?_map] at h2
   cases e:vs[i]? with
   |none=>rw[e] at h2;cases h2
   |some a=>rw[e] at h2;cases h2;rfl
  obtain⟨u,hu,rv⟩:=r.get ha
  have hp:ps[i]? =some y:=by
   rw[←S.pre,List.getElem?_take_of_lt (by omega)];exact h1
  have Py:ps.Nodup:=by rw[←S.pre];exact S.nd.sublist (List.take_sublist _ _)
  refine⟨u,rv,?_⟩
  rcases S.par y (List.mem_of_getElem? hp) with k | k
  ·exact .inl ⟨k,p6 Py hp hu k⟩
  ·obtain⟨c,e⟩:=t6 (n:=s.heap.objs.size+1) k
   refine .inr ⟨.inl k,c,e,?_⟩
   have q:=x.cell y c e
   rw[p4 Py hp hu (by show scope.names.lookup y≠_;rw[k];decide)] at q
   exact q
 ·exact e0.hok.fresh (Nat.le_of_lt (x.above y c (PySem.mem_of_lookup h)))
 ·unfold start
  show _=N.length
  rw[List.length_append,List.length_map,List.length_replicate]
  omega
theorem GP{CX:v5}{P:Program}{w:World}{K:W.Frag}{mg:Str→Option Value}{base:Heap}{k:Nat}{f:Addr}{name qual:Str}{params:Arguments}{body:List Stmt}{scope:Scope}{dV kV doc pm cj ct oc:Value}{an od:Option Addr}
 {FG:Array (Option Value)}{N ps:List Str}{sp:Sp}(lk:K.lookup f=some ⟨oc,od, .func (PySem.W.fnOf name qual params body scope dV kV doc pm an cj ct),FG⟩)(v3:PySem.W.codeIn K cj qual=true)(S:FnScope N ps scope)
 (len:∀vs H Q E,sp vs H Q E→vs.length=ps.length)
 (nH:∀(A:Around) (outer:List Env) (s:Shared) (H:Hp) (vs:List V) (Q:VK) (E:XK),Room k (A.deeper (envOfC qual scope s.heap.objs.size f cj))→sp vs H Q E→
  ∃t,PSs (fQ CX P w K mg base N qual scope f cj A outer s H E) body t∧t {nx:=fun _ H'=>Q .non H',rt:=Q} (start N vs) H):
 FnOk P w K mg base CX (k+1) f (PySem.W.fnOf name qual params body scope dV kV doc pm an cj ct) ps sp:=by
 refine⟨len,fun A outer s H args us vs Q E hr e0 hb r EC=>?_⟩
 have hl:=len _ _ _ _ EC
 have KX:K.In s.heap:=e0.mod.kin.keeps fun b o e=>(e0.bs b o e).1
 have lim:s.heap.NoLimit:=e0.mod.nolimit.keeps fun b o e=>(e0.bs b o e).1
 have KD:∀y∈ps.zip us,scope.names.lookup y.1=some .local∨(scope.names.lookup y.1=some .cell∧((cellsFrom (s.heap.objs.size+1) scope.names []).lookup y.1).isSome=true):=fun⟨n,v⟩ hy=>by
  rcases S.par n (List.of_mem_zip hy).1 with q | q
  ·exact .inl q
  ·exact .inr ⟨q,PySem.W.cellsFrom_some _ _ _ (.inl q)⟩
 refine codeAny_call_function hr.depth (KX _ _ lk) rfl S.co S.gen rfl (PySem.W.codeRec_of KX v3) (hb _ _ _ _ ?_)
 refine wpAny_newFunctionEnv_cells S.kind KD fun env he s1 x=>?_
 subst he
 refine⟨lim.keeps x.toInCall.keep,codeAny_func ?_⟩
 obtain⟨t,ht,hq⟩:=nH A outer s H vs Q E (hr.deeper _) EC
 have I:Inv (fQ CX P w K mg base N qual scope f cj A outer s H E) [] (start N vs) H s1:=zY S hr.hd e0 hl r x
 refine wpAny_mono (ht [] s1 (start N vs) H _ I hq) (fun fl s' hs=>?_) fun e s' hs=>hs
 have fin:∀{σ':St}{H':Hp}{v:V}{u:Value},Inv (fQ CX P w K mg base N qual scope f cj A outer s H E) [] σ' H' s'→RelV v u→Q v H'→CE outer P w H s Q u s':=
  fun {σ' H' v u} J rv q=>⟨v,H',J.os,J.bare,J.base,J.hok,rv,q⟩
 cases fl with
 |ret u=>
  obtain⟨v,σ',H',J,rv,q⟩:=hs
  exact fin J rv q
 |next=>
  obtain⟨σ',H',J,q⟩:=hs
  exact fin (v:=V.non) (u:=Value.none) J rfl q
 |brk=>
  obtain⟨_,_,_,q⟩:=hs
  exact False.elim q
 |cont=>
  obtain⟨_,_,_,q⟩:=hs
  exact False.elim q
section
variable{X:Cx}{x:Str}{p pos:Pos}{e:Expr}{es:List Expr}{t:TA}{id T:String}{r:List V→Hp→VK→Prop}
def Oo(r:List V→Hp→VK→Prop)(t:TA):TE:=fun σ H Q=>t σ H fun vs H1=>r vs H1 Q
theorem Dm(hc:CallR X (.builtin id) r)(hg:Gl X x)(hm:X.mg x=none)(hv:bootBuiltins x=some (.builtin id))(ha:PA X (e::es) t)(hn:x≠"__name__":=by decide)(rS:(x==("__debug__":Str))=false:=by decide)
 (he:starEach (e::es) X.env=(false,eval e X.env)::starEach es X.env:=by rfl)(k8:(backTo pos (starEach es X.env)).any (·.1)=false:=by rfl):PE X (.Call (.Name x p) (e::es) [] pos) (Oo r t):=by
 intro pins s σ H Q I h
 refine wpAny_Call_Name_kw (dZ I hg hm hv ?_ hn rS)
 exact PyProof.Rows.callWith_builtin1 (b5 (ha pos pins s σ H _ I h) fun us s1 ⟨vs,H1,I1,r1,q1⟩=>hc pins s1 σ H1 vs us Q I1 r1 q1) he k8
theorem AF(hc:CallR X (.type T) r)(hg:Gl X x)(hm:X.mg x=none)(hv:bootBuiltins x=some (.type T))(ha:PA X (e::es) t)(hn:x≠"__name__":=by decide)(rS:(x==("__debug__":Str))=false:=by decide)
 (he:starEach (e::es) X.env=(false,eval e X.env)::starEach es X.env:=by rfl)(k8:(backTo pos (starEach es X.env)).any (·.1)=false:=by rfl):PE X (.Call (.Name x p) (e::es) [] pos) (Oo r t):=by
 intro pins s σ H Q I h
 refine wpAny_Call_Name_kw (dZ I hg hm hv ?_ hn rS)
 exact PyProof.Rows.callWith_type1 (b5 (ha pos pins s σ H _ I h) fun us s1 ⟨vs,H1,I1,r1,q1⟩=>hc pins s1 σ H1 vs us Q I1 r1 q1) he k8
end
end L2
namespace HT
open PySem PyProof.Rows
section
open PySem.SeqAt
open PySem.AutoSeq1 (wpAny_loadPart')
open PySem.MeetsSeq PySem.MeetsSeq2 PySem.MeetsSeq3
end
section
variable{prog:Program}{w:World}{A:Around}{E:Value→Shared→Prop}{s:Shared}
theorem cat_tup{t b:Addr}{vs ws:List Value}{Q:Value→Shared→Prop}(ht:IsTup s.heap t vs.toArray)(hb:IsTup s.heap b ws.toArray)(hv:vs≠[])
 (h1:ws=[]→Q (.ref t) s)(h2:ws≠[]→Q (.ref s.heap.objs.size) {s with heap:=s.heap.push {cls:= .type "tuple",data:= .seq (vs++ws).toArray} })
 (hsz:vs.length+ws.length≤sizeLine):wpAny (model prog w) A (binaryOp .Add (.ref t) (.ref b)) Q E s:=by
 obtain⟨⟨cls,dd,data,sl⟩,ho,hc,n,hd⟩:=id ht
 obtain⟨⟨MN,Be,data2,Mu⟩,HW,HH,n2,hd2⟩:=id hb
 simp only at hc hd HH hd2
 subst hc hd HH hd2
 have e:vs.toArray++ws.toArray=(vs++ws).toArray:=by simp
 by_cases hw:ws=[]
 ·exact concat_meets ⟨_,ho,rfl⟩ ⟨_,HW,rfl⟩ noFill_tuple_add seq_tuple_add PySem.F.slot_tuple_add PySem.F.entry_tuple_add (PySem.F.args_tuple_add_2 _ _)
   (tuple_addW1 t b vs.toArray ws.toArray n n2 dd Be sl Mu (by simpa using hv) (by simp[hw])) ⟨ho,HW,h1 hw⟩
 ·refine concat_meets ⟨_,ho,rfl⟩ ⟨_,HW,rfl⟩ noFill_tuple_add seq_tuple_add PySem.F.slot_tuple_add PySem.F.entry_tuple_add (PySem.F.args_tuple_add_2 _ _)
   (tuple_addW2 t b vs.toArray ws.toArray n n2 dd Be sl Mu (by simpa using hv) (by simpa using hw) (by rw[List.size_toArray,List.size_toArray];exact hsz)) ⟨ho,HW,?_⟩
  rw[e]
  exact h2 hw
def sIx(n d:Nat):Option Int→Nat
 |none=>d
 |some v=>if v<0 then(v+(n:Int)).toNat else min v.toNat n
theorem sIx_none(n d:Nat):sIx n d none=d:=rfl
end
end HT
namespace L2
open PySem PySem.Spec PyProof.Rows
abbrev TO:=St→Hp→(Option Int→Hp→Prop)→Prop
theorem intsAre_of{ns:List Int}:∀{us:List Value},Vals (ns.map V.int) us→IntsAre us ns:=by
 induction ns with
 |nil=>intro us r;rw[List.map_nil] at r;cases r;exact .nil
 |cons n ns ih=>
  intro us r
  rw[List.map_cons] at r
  cases r with
  |cons r1 r2=>
   obtain⟨t,e⟩:=r1
   subst e
   exact .cons n t (ih r2)
section
variable{X:Cx}{e:Expr}{te:TE}{lo hi:Option Expr}{tl th:TO}{pos p2:Pos}
def PZ(X:Cx)(r:V→Option Int→Option Int→Hp→VK→Prop):Prop:=
 ∀(pins:List (Addr×Obj)) (s:Shared) (σ:St) (H:Hp) (x:V) (v vl vu:Value) (lo hi:Option Int) (sl:Addr) (Q:VK),Inv X pins σ H s→RelV x v→s.heap.IsSliceOf sl vl vu .none→IsPart vl lo→IsPart vu hi→r x lo hi H Q→
  ∃T id,typeLookup (.type T) "__getitem__"=pure (some (.builtin id))∧s.TypeIs v T∧wpAny (model X.prog X.w) X.A (getItem v (.ref sl)) (EP X pins σ Q) X.xe s
def EM(xs:List V)(lo hi:Option Int):List V:=(xs.drop (HT.sIx xs.length 0 lo)).take (HT.sIx xs.length xs.length hi - HT.sIx xs.length 0 lo)
theorem t_(xs:List V)(lo hi:Option Int):(EM xs lo hi).length≤xs.length:=by
 unfold EM
 rw[List.length_take,List.length_drop]
 omega
def LF(K:W.Frag):R2:=fun x y H Q=>∃a b xs ys,x= .ref a∧y= .ref b∧SqT K H a xs∧SqT K H b ys∧xs≠[]∧xs.length+ys.length≤sizeLine∧
 (ys=[]→Q (.ref a) H)∧(ys≠[]→∀p,H p=none→Q (.ref p) (upd H p (.tup (xs++ys))))
theorem Vals.nil_iff{xs:List V}{us:List Value}(r:Vals xs us):us=[]↔xs=[]:=by
 cases r with
 |nil=>simp
 |cons _ _=>simp
theorem Fx:OpR X (binaryOp .Add) (LF X.K):=by
 intro pins s σ H x y v u Q I rx ry h
 obtain⟨a,b,xs,ys,rfl,rfl,ha,hb,hx,hz,q1,q2⟩:=h
 cases rx
 cases ry
 obtain⟨aD,r1,p1,_⟩:=I.tuple ha
 obtain⟨eV,r2,p2,_⟩:=I.tuple hb
 refine HT.cat_tup p1 p2 (fun z=>hx (r1.nil_iff.mp z)) (fun z=>⟨.ref a,H,I,rfl,q1 (r2.nil_iff.mp z)⟩) (fun z=>?_) (by rw[←r1.length,←r2.length];exact hz)
 refine⟨.ref s.heap.objs.size,_,I.laid (t':=s.toks) (o:= .tup (xs++ys)) (fun b ob q=>Heap.get?_push_of_some _ q) (Nat.le_refl _) ?_,rfl,q2 (fun w=>z (r2.nil_iff.mpr w)) _ (I.hok.fresh (Nat.le_refl _))⟩
 exact⟨by rw[List.length_append];exact hz,_,r1.append r2,IsTup.new _ _⟩
end
def Cw(n:Nat)(i:Int):Option Nat:=if 0≤i then(if i<n then some i.toNat else none) else if -(n:Int)≤i then some (i+n).toNat else none
def atI{α:Type}(xs:List α)(i:Int):Option α:=(Cw xs.length i).bind fun j=>xs[j]?
theorem Fg{n:Nat}{i:Int}{j:Nat}(h:Cw n i=some j):seqIndex? i n=some j∧j<n∧ -(n:Int)≤i∧i<n:=by
 unfold Cw at h
 by_cases h0:0≤i
 ·rw[if_pos h0] at h
  by_cases h1:i<n
  ·rw[if_pos h1] at h
   have e:i.toNat=j:=Option.some.inj h
   exact⟨by rw[seqIndex_of h0 h1,e],by omega,by omega,h1⟩
  ·rw[if_neg h1] at h;cases h
 ·rw[if_neg h0] at h
  by_cases h1: -(n:Int)≤i
  ·rw[if_pos h1] at h
   have e:(i+n).toNat=j:=Option.some.inj h
   exact⟨by rw[seqIndex_neg (by omega) h1,e],by omega,h1,by omega⟩
  ·rw[if_neg h1] at h;cases h
theorem rB{α:Type}{xs:List α}{i:Int}{v:α}(h:atI xs i=some v):∃j,seqIndex? i xs.length=some j∧xs[j]? =some v∧j<xs.length∧ -(xs.length:Int)≤i∧i<xs.length:=by
 unfold atI at h
 cases e:Cw xs.length i with
 |none=>rw[e] at h;cases h
 |some j=>
  rw[e] at h
  obtain⟨h1,h2,h3,h4⟩:=Fg e
  exact⟨j,h1,h,h2,h3,h4⟩
theorem tY{α:Type}(xs:List α)(v:α):atI (xs++[v]) (-1)=some v:=by
 have hl:(xs++[v]).length=xs.length+1:=by simp
 have e:Cw (xs++[v]).length (-1)=some xs.length:=by
  unfold Cw
  rw[hl,if_neg (by decide),if_pos (by omega)]
  congr 1
  omega
 unfold atI
 rw[e]
 show (xs++[v])[xs.length]? =some v
 simp
def iP(b:Expr):Prop:=∀o i,subscripted b false o i=operate [o,i] (getItem o i)
def J4(X:Cx)(r:R2):Prop:=
 ∀(value slice:Expr) (pins:List (Addr×Obj)) (s:Shared) (σ:St) (H:Hp) (x y:V) (v u:Value) (Q:VK),Inv X pins σ H s→RelV x v→RelV y u→r x y H Q→
  subscripted slice false v u=operate [v,u] (getItem v u)→wpAny (model X.prog X.w) X.A (subscriptTail value slice v u) (EP X pins σ Q) X.xe s
def L4(X:Cx)(id:String)(r:V→List V→Hp→VK→Prop):Prop:=
 ∀(pins:List (Addr×Obj)) (s:Shared) (σ:St) (H:Hp) (x:V) (xs:List V) (v:Value) (us:List Value) (Q:VK),Inv X pins σ H s→RelV x v→Vals xs us→r x xs H Q→
  wpAny (model X.prog X.w) X.A (call (.builtin id) (v::us)) (EP X pins σ Q) X.xe s
section
variable{X:Cx}{a b:Expr}{ta tb:TE}{pos:Pos}
theorem Ly{r:R2}(hr:J4 X r)(ha:PE X a ta)(hb:PE X b tb)(hs:iP b):PE X (.Subscript a b pos) (LZ r ta tb):=by
 intro pins s σ H Q I h
 exact Subscript_ (Hl ha hb I h fun v u s2 x y H2 I2 rx ry q=>hr a b pins s2 σ H2 x y v u Q I2 rx ry q (hs _ _))
def Js(K:W.Frag):R2:=fun x y H Q=>∃p xs i v,x= .ref p∧y= .int i∧SqL K H p xs∧atI xs i=some v∧Q v H
def LK(K:W.Frag):R2:=fun x y H Q=>∃p xs i v,x= .ref p∧y= .int i∧SqT K H p xs∧atI xs i=some v∧Q v H
def LJ:R2:=fun x y H Q=>∃z i c,x= .str z∧y= .int i∧z.length≤sizeLine∧atI z.cps.toList i=some c∧Q (.str ⟨#[c]⟩) H
theorem yC:J4 X (Js X.K):=by
 intro value slice pins s σ H x y v u Q I rx ry h hs
 obtain⟨p,xs,i,z,rfl,rfl,hq,he,q⟩:=h
 cases rx
 obtain⟨t,rfl⟩:=ry
 obtain⟨aD,r,pl,hz⟩:=I.list hq
 obtain⟨j,h1,h2,h3,h4,h5⟩:=rB he
 obtain⟨w,ew,Bo⟩:=r.get h2
 have hl:=r.length
 have hn:=ll
 have fin:EP X pins σ Q w s:=⟨z,H,I,Bo,q⟩
 by_cases h0:0≤i
 ·have hj:i.toNat=j:=by
   rw[seqIndex_of h0 h5] at h1
   exact Option.some.inj h1
  exact item_listR pl.isList h0 (by omega) (by rw[hj];simpa using ew) fin hs
 ·have hj:(i+(aD.toArray.size:Int)).toNat=j:=by
   rw[seqIndex_neg (by omega) h4] at h1
   rw[List.size_toArray,←hl]
   exact Option.some.inj h1
  exact subscriptTail_builtinR (x:=w) pl.isList.typeIs slot_list_getitem.lookup
   (wpAny_getItem_list_neg (Q:=fun r s'=>r=w∧EP X pins σ Q r s') pl.isList (by omega) (by rw[List.size_toArray]<;>omega) (by omega) (by rw[hj];simpa using ew) ⟨rfl,fin⟩) hs
theorem Iz:J4 X (LK X.K):=by
 intro value slice pins s σ H x y v u Q I rx ry h hs
 obtain⟨p,xs,i,z,rfl,rfl,hq,he,q⟩:=h
 cases rx
 obtain⟨t,rfl⟩:=ry
 obtain⟨aD,r,pl,hz⟩:=I.tuple hq
 obtain⟨j,h1,h2,h3,h4,h5⟩:=rB he
 obtain⟨w,ew,Bo⟩:=r.get h2
 have hl:=r.length
 have hn:=ll
 have fin:EP X pins σ Q w s:=⟨z,H,I,Bo,q⟩
 exact subscriptTail_builtinR (x:=w) pl.typeIs slot_tuple_getitem.lookup
  (getItem_tuple (j:=j) (Q:=fun r s'=>r=w∧EP X pins σ Q r s') pl (by omega) (by omega) (by rw[List.size_toArray,←hl];exact h1) (by simpa using ew) ⟨rfl,fin⟩) hs
theorem Iy:J4 X LJ:=by
 intro value slice pins s σ H x y v u Q I rx ry h hs
 obtain⟨z,i,c,rfl,rfl,hz,he,q⟩:=h
 obtain⟨t,rfl⟩:=rx
 obtain⟨t',rfl⟩:=ry
 obtain⟨j,h1,h2,h3,h4,h5⟩:=rB he
 have hl:z.cps.toList.length=z.length:=by simp[Str.length]
 rw[hl] at h1 h4 h5
 have hn:=ll
 exact tail_any (typeIs_str s z t) slot_str_getitem.lookup (getItem_str (c:=c) (by
  have e1:decide (i< -(2 ^ 63:Int))=false:=decide_eq_false (by omega)
  have e2:decide (i≥2 ^ 63)=false:=decide_eq_false (by omega)
  rw[e1,e2,Bool.or_false]) (by rw[h1];simpa using h2) ⟨.str ⟨#[c]⟩,H,I.tok _,⟨_,rfl⟩,q⟩) hs
theorem Inv.lst{pins:List (Addr×Obj)}{σ:St}{H:Hp}{s:Shared}{p:Addr}{xs:List V}(I:Inv X pins σ H s)(h:H p=some (.lst xs)):
 ∃(aD:List Value) (n:Nat),Vals xs aD∧s.heap.get? p=some {cls:= .type "list",data:= .seq aD.toArray n}∧xs.length≤sizeLine:=by
 obtain⟨z,aD,n,r,e⟩:=I.hok p _ h
 exact⟨aD,n,r,e,z⟩
theorem tE(lo hi:Option Int)(n:Nat):(sliceBounds lo hi none n).1=((HT.sIx n 0 lo:Nat):Int)∧(sliceBounds lo hi none n).2.1=((HT.sIx n n hi:Nat):Int)∧(sliceBounds lo hi none n).2.2=1:=by
 refine⟨?_,?_,rfl⟩
 ·cases lo with
  |none=>simp[sliceBounds,HT.sIx]
  |some i=>
   simp only[sliceBounds,HT.sIx,Option.getD_none,show (1:Int)>0 by decide,if_true]
   by_cases h:i<0
   ·simp only[h,if_true]<;>omega
   ·simp only[h,if_false]<;>omega
 ·cases hi with
  |none=>simp[sliceBounds,HT.sIx]
  |some i=>
   simp only[sliceBounds,HT.sIx,Option.getD_none,show (1:Int)>0 by decide,if_true]
   by_cases h:i<0
   ·simp only[h,if_true]<;>omega
   ·simp only[h,if_false]<;>omega
theorem pX(aD:List Value)(lo hi:Option Int):slicePick aD.toArray lo hi none=((aD.drop (HT.sIx aD.length 0 lo)).take (HT.sIx aD.length aD.length hi - HT.sIx aD.length 0 lo)).toArray:=by
 obtain⟨h1,h2,h3⟩:=tE lo hi aD.toArray.size
 unfold slicePick
 rw[h1,h2,h3]
 simp only[sliceRange_one,pick_run,List.size_toArray]<;>rfl
def Og(K:W.Frag):V→Option Int→Option Int→Hp→VK→Prop:=fun x lo hi H Q=>∃a xs,x= .ref a∧SqL K H a xs∧∀p,H p=none→Q (.ref p) (upd H p (.lst (EM xs lo hi)))
theorem Mv:PZ X (Og X.K):=by
 intro pins s σ H x v vl vu lo hi sl Q I rx hs pl pu h
 obtain⟨a,xs,rfl,hx,q⟩:=h
 cases rx
 obtain⟨aD,r,ht,hz⟩:=I.list hx
 have hlen:=r.length
 refine⟨"list",_,slot_list_getitem.lookup,ht.isList.typeIs,?_⟩
 refine wpAny_getItem_list_slice ht.isList hs pl pu .none (by simp) ?_ (by rw[List.size_toArray]<;>omega)
 rw[pX,←hlen]
 refine⟨.ref s.heap.objs.size,_,I.laid (t':=s.toks) (o:= .lst (EM xs lo hi)) (fun b ob q=>Heap.get?_push_of_some _ q) (Nat.le_refl _) ?_,rfl,q _ (I.hok.fresh (Nat.le_refl _))⟩
 exact⟨Nat.le_trans (t_ xs lo hi) hz,_,0,(r.drop (HT.sIx xs.length 0 lo)).take (HT.sIx xs.length xs.length hi - HT.sIx xs.length 0 lo),Heap.get?_push_size _ rfl⟩
def lW:V→Bool
 | .non=>true
 | .bl _=>true
 | .int _=>true
 | .str _=>true
 |_=>false
def Ex:V→V→Bool
 | .non, .non=>true
 | .bl a, .bl b=>a==b
 | .bl a, .int b=>(if a then 1 else 0)==b
 | .int a, .bl b=>a==(if b then 1 else 0)
 | .int a, .int b=>a==b
 | .str a, .str b=>a==b
 |_,_=>false
theorem Hs{A:Around}{s:Shared}{y x:V}{u v:Value}(ry:RelV y u)(rx:RelV x v)(fy:lW y=true)(fx:lW x=true):SeqAt.EqAt A s u v (Ex y x):=by
 cases y with
 |non=>
  cases ry
  cases x with
  |non=>cases rx;exact SeqAt.EqAt.same _
  |bl b=>cases rx;exact SeqAt.EqAt.none_bool b
  |int b=>obtain⟨t,rfl⟩:=rx;exact SeqAt.EqAt.none_int b t
  |str b=>obtain⟨t,rfl⟩:=rx;exact SeqAt.EqAt.none_str b t
  |_=>exact absurd (show false=true from fx) Bool.false_ne_true
 |bl a=>
  cases ry
  cases x with
  |non=>cases rx;exact SeqAt.EqAt.bool_none a
  |bl b=>cases rx;exact SeqAt.EqAt.bool_bool a b
  |int b=>obtain⟨t,rfl⟩:=rx;exact SeqAt.EqAt.bool_int a b t
  |str b=>obtain⟨t,rfl⟩:=rx;exact SeqAt.EqAt.bool_str a b t
  |_=>exact absurd (show false=true from fx) Bool.false_ne_true
 |int a=>
  obtain⟨t',rfl⟩:=ry
  cases x with
  |non=>cases rx;exact SeqAt.EqAt.int_none a t'
  |bl b=>cases rx;exact SeqAt.EqAt.int_bool a t' b
  |int b=>obtain⟨t,rfl⟩:=rx;exact SeqAt.EqAt.int_int a t' b t
  |str b=>obtain⟨t,rfl⟩:=rx;exact SeqAt.EqAt.int_str a t' b t
  |_=>exact absurd (show false=true from fx) Bool.false_ne_true
 |str a=>
  obtain⟨t',rfl⟩:=ry
  cases x with
  |non=>cases rx;exact SeqAt.EqAt.str_none a t'
  |bl b=>cases rx;exact SeqAt.EqAt.str_bool a t' b
  |int b=>obtain⟨t,rfl⟩:=rx;exact SeqAt.EqAt.str_int a t' b t
  |str b=>obtain⟨t,rfl⟩:=rx;exact SeqAt.EqAt.str_str a t' b t
  |_=>exact absurd (show false=true from fx) Bool.false_ne_true
 |_=>exact absurd (show false=true from fy) Bool.false_ne_true
def ET(x:V)(u:Value):Bool:=match u with
 | .none=>Ex .non x
 | .bool b=>Ex (.bl b) x
 | .int i _=>Ex (.int i) x
 | .str z _=>Ex (.str z) x
 |_=>false
theorem BZ{x y:V}{u:Value}(r:RelV y u)(f:lW y=true):ET x u=Ex y x:=by
 cases y with
 |non=>cases r;rfl
 |bl b=>cases r;rfl
 |int i=>obtain⟨t,rfl⟩:=r;rfl
 |str z=>obtain⟨t,rfl⟩:=r;rfl
 |_=>exact absurd (show false=true from f) Bool.false_ne_true
theorem ro{x:V}:∀{xs:List V}{us:List Value},Vals xs us→xs.all lW=true→us.any (ET x)=xs.any fun y=>Ex y x
 |_,_, .nil,_=>rfl
 |y::xs,u::us, .cons r t,f=>by
  rw[List.all_cons,Bool.and_eq_true] at f
  rw[List.any_cons,List.any_cons,BZ r f.1,ro t f.2]
theorem nZ{A:Around}{s:Shared}{x:V}{v:Value}(rx:RelV x v)(fx:lW x=true):∀{xs:List V}{us:List Value},Vals xs us→xs.all lW=true→∀u∈us,SeqAt.EqAt A s u v (ET x u)
 |_,_, .nil,_=>fun u hu=>by cases hu
 |y::xs,u::us, .cons r t,f=>fun u' hu=>by
  rw[List.all_cons,Bool.and_eq_true] at f
  rcases List.mem_cons.mp hu with rfl | hu
  ·rw[BZ r f.1];exact Hs r rx f.1 fx
  ·exact nZ rx fx t f.2 u' hu
def Mq(x:V)(xs:List V):Bool:=xs.any fun y=>Ex y x
def PH(K:W.Frag)(neg:Bool):R2:=fun x y H Q=>∃p xs,y= .ref p∧(SqL K H p xs∨SqT K H p xs)∧lW x=true∧xs.all lW=true∧Q (.bl (if neg then !Mq x xs else Mq x xs)) H
theorem sI:OpR X (compareOp .NotIn) (PH X.K true):=by
 intro pins s σ H x y v u Q I rx ry h
 obtain⟨p,xs,rfl,hq,fx,fs,q⟩:=h
 cases ry
 rcases hq with hq | hq
 ·obtain⟨aD,r,pl,hz⟩:=I.list hq
  refine SeqAt.notIn_listAt (ET x) pl.isList (fun w hw=>nZ rx fx r fs w (by simpa using hw)) ⟨.bl _,H,I,rfl,?_⟩
  rw[show aD.toArray.any (ET x)=aD.any (ET x) by simp,ro r fs]
  exact q
 ·obtain⟨aD,r,pl,hz⟩:=I.tuple hq
  refine SeqAt.notIn_tupleAt (ET x) pl (fun w hw=>nZ rx fx r fs w (by simpa using hw)) ⟨.bl _,H,I,rfl,?_⟩
  rw[show aD.toArray.any (ET x)=aD.any (ET x) by simp,ro r fs]
  exact q
theorem rF:CallR X (.builtin "len") (fun xs H Q=>∃p ys,xs=[.ref p]∧(SqL X.K H p ys∨SqT X.K H p ys)∧Q (.int ys.length) H):=by
 intro pins s σ H xs us Q I r h
 obtain⟨p,ys,rfl,hq,q⟩:=h
 obtain⟨u,rfl,rx⟩:=vals1 r
 cases rx
 have hn:=ll
 rcases hq with hq | hq
 ·obtain⟨aD,r',pl,hz⟩:=I.list hq
  have hlen:=r'.length
  exact Calls.call_len_list pl.isList (by simp only[List.size_toArray]<;>omega) ⟨.int ys.length,H,I.tok _,⟨s.toks+1,by rw[List.size_toArray,hlen]⟩,q⟩
 ·obtain⟨aD,r',pl,hz⟩:=I.tuple hq
  have hlen:=r'.length
  exact len_tuple pl (by simp only[List.size_toArray]<;>omega) ⟨.int ys.length,H,I.tok _,⟨s.toks+1,by rw[List.size_toArray,hlen]⟩,q⟩
theorem rG:CallR X (.builtin "len") (fun xs H Q=>∃z,xs=[.str z]∧z.length≤sizeLine∧Q (.int z.length) H):=by
 intro pins s σ H xs us Q I r h
 obtain⟨z,rfl,hz,q⟩:=h
 obtain⟨u,rfl,t,rfl⟩:=vals1 r
 have hn:=ll
 exact len_str (by omega) ⟨.int z.length,H,I.tok _,⟨_,rfl⟩,q⟩
theorem CallR.or{f:Value}{r r':List V→Hp→VK→Prop}(h:CallR X f r)(h':CallR X f r'):CallR X f (fun xs H Q=>r xs H Q∨r' xs H Q):=by
 intro pins s σ H xs us Q I rs q
 rcases q with q | q
 ·exact h pins s σ H xs us Q I rs q
 ·exact h' pins s σ H xs us Q I rs q
theorem pH:CallR X (.type "tuple") (fun xs H Q=>∃p ys,xs=[.ref p]∧((SqL X.K H p ys∧∀l,H l=none→Q (.ref l) (upd H l (.tup ys)))∨(SqT X.K H p ys∧Q (.ref p) H))):=by
 intro pins s σ H xs us Q I r h
 obtain⟨p,ys,rfl,h⟩:=h
 obtain⟨u,rfl,rx⟩:=vals1 r
 cases rx
 rcases h with⟨hq,q⟩ | ⟨hq,q⟩
 ·obtain⟨aD,r',pl,hz⟩:=I.list hq
  have hlen:=r'.length
  refine call_tuple_list pl.isList (fun h' kp=>?_) (by simp only[List.size_toArray]<;>omega)
  have I1:Inv X pins σ H {s with heap:=h'}:=I.kept (t':=s.toks) kp
  have I2:Inv X pins σ (upd H h'.objs.size (.tup ys)) {s with heap:=h'.push {cls:= .type "tuple",data:= .seq aD.toArray} }:=
   I1.laid (t':=s.toks) (fun b o e=>Heap.get?_push_of_some _ e) (Nat.le_refl _) (show ObjOk X.prog X.w _ _ _ (.tup ys) from⟨hz,aD,r',IsTup.new _ _⟩)
  exact⟨.ref h'.objs.size,_,I2,rfl,q _ (I1.hok.fresh (Nat.le_refl _))⟩
 ·obtain⟨aD,r',pl,hz⟩:=I.tuple hq
  exact call_tuple_same pl ⟨.ref p,H,I,rfl,q⟩
def My(K:W.Frag)(T:String)(x:V)(H:Hp):Prop:=match x with
 | .str _=>T="str"
 | .int _=>T="int"
 | .ref p=>(T="list"∧∃xs,SqL K H p xs)∨(T="tuple"∧∃o,K.lookup p=some o∧o.cls= .type "tuple"∧o.dict=none)∨
    (T="dict"∧((∃ar,H p=some (.dK ar))∨∃ar,H p=some (.dT ar)))∨(T="set"∧∃S n,H p=some (.set S n))
 |_=>False
theorem JI{pins:List (Addr×Obj)}{σ:St}{H:Hp}{s:Shared}{T:String}{x:V}{v:Value}(I:Inv X pins σ H s)(r:RelV x v)(ty:My X.K T x H):
 s.TypeIs v T∧∀a,v= .ref a→∃ob,s.heap.get? a=some ob∧ob.dict=none:=by
 cases x with
 |str z=>
  obtain⟨t,rfl⟩:=r
  cases (show T="str" from ty)
  exact⟨typeIs_str s z t,fun _ e=>nomatch e⟩
 |int i=>
  obtain⟨t,rfl⟩:=r
  cases (show T="int" from ty)
  exact⟨typeIs_int s i t,fun _ e=>nomatch e⟩
 |ref p=>
  cases r
  rcases ty with⟨rfl,xs,hq⟩ | ⟨rfl,o,hk,hc,hd⟩ | ⟨rfl,hk⟩ | ⟨rfl,S,n,hk⟩
  ·obtain⟨aD,_,pl,_⟩:=I.list hq
   refine⟨pl.isList.typeIs,fun a e=>?_⟩
   cases e
   obtain⟨o,n,e,c,hd,_⟩:=pl
   exact⟨o,e,hd⟩
  ·refine⟨⟨o,I.kIn p o hk,hc⟩,fun a e=>?_⟩
   cases e
   exact⟨o,I.kIn _ o hk,hd⟩
  ·have z:∃o,s.heap.get? p=some o∧o.ExactDict:=by
    rcases hk with⟨ar,hk⟩ | ⟨ar,hk⟩
    ·obtain⟨_,_,_,_,o,_,_,e,ex,_⟩:=I.hok p _ hk
     exact⟨o,e,ex⟩
    ·obtain⟨_,_,_,_,o,_,_,e,ex,_⟩:=I.hok p _ hk
     exact⟨o,e,ex⟩
   obtain⟨o,e,ex⟩:=z
   refine⟨⟨o,e,ex.1⟩,fun a e2=>?_⟩
   cases e2
   exact⟨o,e,ex.2.1⟩
  ·obtain⟨o,_,_,_,e,ex,_⟩:=I.hok p _ hk
   refine⟨⟨o,e,ex.1⟩,fun a e2=>?_⟩
   cases e2
   exact⟨o,e,ex.2.1⟩
 |_=>exact False.elim ty
def Om(K:W.Frag)(T:String)(r:V→List V→Hp→VK→Prop)(to:TE)(t:TA):TE:=fun σ H Q=>to σ H fun x H1=>My K T x H1∧t σ H1 fun xs H2=>r x xs H2 Q
variable{o e:Expr}{es:List Expr}{to:TE}{t:TA}{name:Str}{apos bp:Pos}{T id:String}{r:V→List V→Hp→VK→Prop}
theorem Dl(pa:PlainAttrs T)(slot:Slot T name id)(NN:typeOf (.builtin id)=pure (.type "method_descriptor"))(hm:L4 X id r)(ho:PE X o to)(ha:PA X (e::es) t)
 (g7:attributeBase o name X.env (eval o X.env)=eval o X.env:=by rfl)
 (nK:((backTo bp (starEach (e::es) X.env)).all (fun x=>!x.1)&&(backToKw bp (keywordEach [] X.env)).all (fun x=>x.1.isSome)
  &&decide ((e::es).length+([]:List Keyword).length+(if ([]:List Keyword).isEmpty then 0 else 1)<30))=true:=by rfl)
 (g8:(apos.endLine==bp.line)=true:=by rfl) (hs:starEach (e::es) X.env=(false,eval e X.env)::starEach es X.env:=by rfl) (wJ:(backTo bp (starEach es X.env)).any (·.1)=false:=by rfl):
 PE X (.Call (.Attribute o name apos) (e::es) [] bp) (Om X.K T r to t):=by
 intro pins s σ H Q I h
 refine wpAny_Call_method_late g7 nK g8 rfl (b5 (ho pins s σ H _ I h) fun v s1 ⟨x,H1,I1,r1,ty,q1⟩=>?_)
 obtain⟨h1,h2⟩:=JI I1 r1 ty
 refine⟨T,id,pa,slot,NN,h1,h2,?_⟩
 have hA:=ha bp pins s1 σ H1 _ I1 q1
 rw[hs] at hA⊢
 refine Calls.callWith_builtin (by show (false||(backTo bp (starEach es X.env)).any (·.1))=false;rw[wJ]<;>rfl) (Calls.evalArgs_plain ?_)
 exact b5 hA fun us s2 ⟨vs,H2,I2,r2,q2⟩=>hm pins s2 σ H2 x vs v us Q I2 r1 r2 q2
end
def OI(X:Cx)(id:String)(r:V→List V→Hp→VK→Prop):Prop:=
 ∀(pins:List (Addr×Obj)) (s:Shared) (σ:St) (H:Hp) (x:V) (xs:List V) (v:Value) (us:List Value) (Q:VK),Inv X pins σ H s→RelV x v→Vals xs us→r x xs H Q→
  wpAny (model X.prog X.w) X.A (call (.builtin id) (v::us)) (EP X pins σ Q) X.xe s
theorem Vals.one:∀{x:V}{us:List Value},Vals [x] us→∃u,us=[u]∧RelV x u
 |_,_, .cons r .nil=>⟨_,rfl,r⟩
theorem Vals.reverse{xs:List V}{us:List Value}(h:Vals xs us):Vals xs.reverse us.reverse:=by
 induction h with
 |nil=>exact .nil
 |cons r t ih=>rw[List.reverse_cons,List.reverse_cons];exact Vals.append ih (.cons r .nil)
section
variable{X:Cx}{pins:List (Addr×Obj)}{σ:St}{H:Hp}{s:Shared}{l b:Addr}{xs ys zs:List V}
theorem Inv.lset{aD its':List Value}{n:Nat}{f:Array Value→Array Value}{t':Nat}(I:Inv X pins σ H s)(hH:H l=some (.lst xs))
 (e:s.heap.get? l=some {cls:= .type "list",data:= .seq aD.toArray n})(hf:f aD.toArray=its'.toArray)(hv:Vals ys its')(hz:ys.length≤sizeLine):
 Inv X pins σ (upd H l (.lst ys)) {s with heap:=s.heap.update l (Obj.mapSeq f),toks:=t'}:=by
 have q:=PySem.IsL.update e f
 rw[hf] at q
 refine I.write (x:=l) (e:=l) (by rw[hH];exact trivial) (.inl rfl) (fun b' u hb hu=>(Heap.get?_update_other s.heap (Obj.mapSeq f) (Ne.symm hb)).trans hu) ⟨_,q⟩ ?_
 exact⟨hz,its',_,hv,q⟩
theorem Inv.lnew{aD:List Value}{t':Nat}(I:Inv X pins σ H s)(hv:Vals ys aD)(hz:ys.length≤sizeLine):
 Inv X pins σ (upd H s.heap.objs.size (.lst ys)) {s with heap:=s.heap.push {cls:= .type "list",data:= .seq aD.toArray},toks:=t'}:=
 I.laid (fun _ _ q=>Heap.get?_push_of_some _ q) (Nat.le_refl _) ⟨hz,aD,0,hv,Heap.get?_push_size _ rfl⟩
theorem Inv.fresh(I:Inv X pins σ H s):H s.heap.objs.size=none:=I.hok.fresh (Nat.le_refl _)
theorem Inv.lstM(I:Inv X pins σ H s)(hH:H l=some (.lst xs)):xs.length≤sizeLine∧∃(aD:List Value) (n:Nat),Vals xs aD∧xs.length=aD.length∧s.heap.get? l=some {cls:= .type "list",data:= .seq aD.toArray n}:=by
 obtain⟨z,aD,n,r,e⟩:=I.hok l _ hH
 exact⟨z,aD,n,r,r.length,e⟩
theorem CV{n:Nat}(h:n≤sizeLine):Builtin.List.listTooLong n=false:=by
 unfold Builtin.List.listTooLong
 exact decide_eq_false (by omega)
end
section
variable{X:Cx}
def y7:V→List V→Hp→VK→Prop:=fun x vs H Q=>∃l xs y,x= .ref l∧vs=[y]∧H l=some (.lst xs)∧xs.length<sizeLine∧Q .non (upd H l (.lst (xs++[y])))
theorem qD:OI X "list.append" y7:=by
 intro pins s σ H x vs v us Q I rx rv h
 obtain⟨l,xs,y,rfl,rfl,hH,hz,q⟩:=h
 cases rx
 obtain⟨u,rfl,ru⟩:=rv.one
 obtain⟨z,aD,n,r,hl,e⟩:=I.lstM hH
 refine call_meets F.slot_list_append ⟨_,e,rfl⟩ F.entry_list_append (F.args_list_append_2 _ _) (PySem.list_append l aD.toArray n u (by rw[List.size_toArray];omega)) ⟨e,?_⟩
 refine⟨.non,_,I.lset (its':=aD++[u]) hH e (by simp) (r.append (.cons ru .nil)) ?_,rfl,q⟩
 rw[List.length_append,List.length_singleton]
 omega
def y8:V→List V→Hp→VK→Prop:=fun x vs H Q=>∃l b xs zs,x= .ref l∧vs=[.ref b]∧H l=some (.lst xs)∧H b=some (.lst zs)∧xs.length+zs.length≤sizeLine∧Q .non (upd H l (.lst (xs++zs)))
theorem Aj:OI X "list.extend" y8:=by
 intro pins s σ H x vs v us Q I rx rv h
 obtain⟨l,b,xs,zs,rfl,rfl,hH,hB,hz,q⟩:=h
 cases rx
 obtain⟨u,rfl,ru⟩:=rv.one
 cases ru
 obtain⟨z,aD,n,r,hl,e⟩:=I.lstM hH
 obtain⟨z2,eV,n2,r2,Cf,e2⟩:=I.lstM hB
 have hsz:aD.toArray.size+eV.toArray.size≤sizeLine:=by rw[List.size_toArray,List.size_toArray];omega
 have KJ:¬(!aD.toArray.isEmpty&&Builtin.List.listTooLong (aD.toArray.size+eV.toArray.size))=true:=by
  rw[CV hsz,Bool.and_false]
  exact Bool.false_ne_true
 refine call_meets F.slot_list_extend ⟨_,e,rfl⟩ F.entry_list_extend (F.args_list_extend_2 _ _)
  (AutoSeq1.list_extend_list_list_0 l aD.toArray n b eV.toArray n2 KJ (by rw[List.size_toArray];omega) (by omega)) ⟨e,e2,?_⟩
 refine⟨.non,_,I.lset (its':=aD++eV) hH e (by simp) (r.append r2) ?_,rfl,q⟩
 rw[List.length_append]
 omega
def Oe:R2:=fun x y H Q=>∃l b xs zs,x= .ref l∧y= .ref b∧H l=some (.lst xs)∧H b=some (.lst zs)∧xs.length+zs.length≤sizeLine∧∀p,H p=none→Q (.ref p) (upd H p (.lst (xs++zs)))
theorem IK:OpR X (binaryOp .Add) Oe:=by
 intro pins s σ H x y v u Q I rx ry h
 obtain⟨l,b,xs,zs,rfl,rfl,hH,hB,hz,q⟩:=h
 cases rx
 cases ry
 obtain⟨z,aD,n,r,hl,e⟩:=I.lstM hH
 obtain⟨z2,eV,n2,r2,Cf,e2⟩:=I.lstM hB
 refine PySem.P.add_list e e2 ?_ (by rw[List.size_toArray,List.size_toArray];omega)
 have ea:aD.toArray++eV.toArray=(aD++eV).toArray:=by simp
 rw[ea]
 exact⟨.ref _,_,I.lnew (t':=s.toks) (r.append r2) (by rw[List.length_append];omega),rfl,q _ I.fresh⟩
end
section
variable{prog:Program}{w:World}{A:Around}{E:Value→Shared→Prop}{s:Shared}
end
section
variable{X:Cx}
end
end L2
namespace Att
open PySem PySem.W PySem.Calls PyProof.Rows
theorem ints_of_wellAll{P:Params}{h:Heap}:∀(ns:List Int) (vs:List Value),WellAll P h vs (ns.map WData.int)→IntsAre vs ns:=by
 intro ns
 induction ns with
 |nil=>
  intro vs w
  rw[List.map_nil] at w
  cases w
  exact .nil
 |cons n ns ih=>
  intro vs w
  rw[List.map_cons] at w
  cases w with
  |cons a b=>
   cases a
   exact .cons _ _ (ih _ b)
theorem script_of{l:OpenLaw}{n:Nat}(hn:l.most=some n){P:Params}{h:Heap}{args:List WData}{vals:List Value}
 (E5:l.row.toRowW.claim.pre args=true)(Mn:WellAll P h vals args):
 ∃a vs ns,vals=[Value.ref a]∧args=[WData.list (ns.map WData.int)]∧h.get? a=some {cls:= .type "list",data:= .seq vs.toArray}∧IntsAre vs ns∧ns.length≤n:=by
 have Q8:WShape.hasAll [] args [.list .int]=true:=(pre_splitW E5).1
 have hc:l.pre.holds [] {args:=args}=true:=(pre_splitW E5).2
 obtain⟨d,r,rfl,h1,h2⟩:=hasAllW_cons Q8
 obtain rfl:=hasAllW_nil h2
 obtain⟨xs,rfl,h3⟩:=hasW_list h1
 obtain⟨ns,rfl⟩:=items_int h3
 have hlen:ns.length≤n:=by
  unfold OpenLaw.pre at hc
  have h4:(WTm.not (.lt (.lit (.int (n:Int))) (.len (.arg 0)))).holds [] {args:=[.list (ns.map .int)]}=true:=by
   have h4:=(holds_andW hc).1
   rw[hn] at h4
   exact h4
  have h5:=condW_of h4 (w_not (w_lt w_lit (w_len_list (w_arg rfl))))
  rw[List.length_map] at h5
  refine Nat.le_of_not_lt fun q=>?_
  have q':(n:Int)<((ns.length:Nat):Int):=by omega
  first
   |(rw [decide_eq_true q'] at h5;exact absurd h5 (by decide))
   |(simp at h5;omega)
 cases Mn with
 |cons w1 w2=>
  cases w2
  cases w1 with
  |list ho M8=>exact⟨_,_,ns,rfl,rfl,ho,ints_of_wellAll ns _ M8,hlen⟩
theorem post_true(l:OpenLaw)(args:List WData):l.row.toRowW.claim.post args (.bool true) args=true:=
 postW_of (r:=l.row.toRowW) (X:=(true==true))
  (show WShape.has [] (.bool true) .bool=true by first | rfl | decide | simp[WShape.has,WShape.arms,WShape.armsAll])
  (show (WTm.eq .res (.lit (.bool true))).value [] {args:=args,res:=some (.bool true),after:=args}=some (.bool (true==true)) from w_eq_bool (w_res rfl) w_lit) rfl
theorem attach_call{l:OpenLaw}{n:Nat}{q:Program}{loose:List Str}{XP:(Str→Option Value)→Heap→Prop}{YP:World→Heap→Prop}{d:DefRec}
 (hn:l.most=some n)(Kx:d.params.defaults=[])
 (call:∀(w:World) (s₀ s₁:Shared) (mg mb:Str→Option Value) (fa:Addr) (o:Obj) (pm cd doc:Value) (a:Addr) (vs:List Value) (ns:List Int),
  Ground q loose [] XP w s₀ mg mb s₁.heap→YP w s₁.heap→
  s₁.heap.get? fa=some o→o.data= .func (docDef d.name d.params d.body d.scope pm cd doc)→s₁.heap.CodeRec cd d.name→mg d.name=some (.ref fa)→
  s₁.heap.get? a=some {cls:= .type "list",data:= .seq vs.toArray}→IntsAre vs ns→ns.length≤n→s₁.gens= #[]→
  codeAny (model l.prog w) callerA (.call (.ref fa) ⟨[.ref a],[]⟩) (fun r s'=>r= .ok (.ret (.bool true))∧OldK s₁.heap s'.heap∧s'.os=s₁.os∧AllBare s'.gens) s₁):
 WalkO q loose XP YP l.row.toRowW d [] (fun f vs=>PySem.call f vs):=by
 intro w s₀ s₁ mg mb G Y fa o pm cd doc dV kV ho hd v3 hD HS hg args vals as E5 QU RT Mn RP
 obtain rfl:dV= .none:=Dflts.none hD Kx
 obtain rfl:kV= .none:=Dflts.noKw hD
 obtain⟨a,vs,ns,rfl,rfl,Cg,hints,hlen⟩:=script_of hn E5 Mn
 refine enter_call (codeAny_mono (call w s₀ s₁ mg mb fa o pm cd doc a vs ns G Y ho (fd_plain hd) v3 HS Cg hints hlen hg) fun r s' hq=>?_)
 obtain⟨rfl,h2,h3,h4⟩:=hq
 exact⟨.inl ⟨.bool true, .bool true,[],rfl,fun _=>rfl, .bool true,post_true l _,fun _=>⟨List.Pairwise.nil,fun _ hm=>(nomatch hm)⟩⟩,h2,h3,h4⟩
section
variable{prog:Program}{w:World}{A:Around}{E:Value→Shared→Prop}{s:Shared}{K:Frag}
def ledger(h:Heap)(L d:Addr):List (Addr×Obj):=(List.range h.objs.size).filterMap fun a=>if a=L∨a=d then none else(h.get? a).map fun o=>(a,o)
end
end Att
namespace L2
open PySem PySem.Spec PyProof.Rows
theorem ri:∀{vs:List Value}{ns:List Int},IntsAre vs ns→Vals (ns.map V.int) vs
 |_,_, .nil=> .nil
 |_,_, .cons n t h=> .cons ⟨t,rfl⟩ (ri h)
def Hj(H:Hp):Prop:=∀b,H b=none∨∃o xs,H b=some (.frz o (.lst xs))
theorem uC{P:Program}{w:World}{K:W.Frag}{mg mb:Str→Option Value}{CX:v5}{k:Nat}{fa a:Addr}{fd:FuncData}{x:Str}{sp:Sp}{s₁:Shared}{vs:List Value}{ns:List Int}
 (KX:K.In s₁.heap)(Mh:s₁.heap.Ns mainGlobals mg)(hb:s₁.heap.Ns builtinsNs mb)(Qv:∀x:Str,x≠"__name__"→mb x=bootBuiltins x)(KI:s₁.heap.NoLimit)(hg:s₁.gens= #[])
 (ha:s₁.heap.get? a=some {cls:= .type "list",data:= .seq vs.toArray})(hi:IntsAre vs ns)(hl:ns.length≤sizeLine)(hr:Room k callerA)
 (F:∀base:Heap,K.In base→base.Ns mainGlobals mg→FnOk P w K mg base CX k fa fd [x] sp)(Kv:∀(s:Shared) (u:Value),BindsTo s fd ⟨[u],[]⟩ [(x,u)])
 (EC:∀H:Hp,Hj H→SqL K H a (ns.map V.int)→sp [.ref a] H (fun v _=>v= .bl true) fun _ _ _=>False)
 (MV:∀H e s',CX [] H s₁ (fun _ _ _=>False) e s'→False):
 codeAny (model P w) callerA (.call (.ref fa) ⟨[.ref a],[]⟩) (fun r s'=>r= .ok (.ret (.bool true))∧OldK s₁.heap s'.heap∧s'.os=s₁.os∧AllBare s'.gens) s₁:=by
 have rv:=ri hi
 have N3:=hi.length
 have core:∀H:Hp,Hj H→SqL K H a (ns.map V.int)→HOk P w H s₁.heap→(∀b,H b≠none→b=a)→(H a≠none→K.lookup a=none)→
  codeAny (model P w) callerA (.call (.ref fa) ⟨[.ref a],[]⟩) (fun r s'=>r= .ok (.ret (.bool true))∧OldK s₁.heap s'.heap∧s'.os=s₁.os∧AllBare s'.gens) s₁:=by
  intro H hO hS hok hA hK
  have yg:∀{b:Addr}{o:Obj},s₁.heap.get? b=some o→H b=none→(rT s₁.heap H).get? b=some o:=fun e n=>Cc e n
  have Lj:∀{b:Addr}{o:Obj}{es:Array DictEntry}{ep:Nat},s₁.heap.get? b=some o→o.data= .dict es ep→H b=none:=fun {b o es ep} e d=>by
   cases q:H b with
   |none=>rfl
   |some u=>
    have e':b=a:=hA b (by rw[q];simp)
    subst e'
    rw[ha] at e;cases e
    have d':Data.seq vs.toArray _=Data.dict es ep:=d
    cases d'
  have Ms:∀{b:Addr}{m:Str→Option Value},s₁.heap.Ns b m→(rT s₁.heap H).Ns b m:=fun {b m} ⟨o,es,ep,e,d,r⟩=>⟨o,es,ep,yg e (Lj e d),d,r⟩
  have O0:K.In (rT s₁.heap H):=fun b o e=>yg (KX b o e) (by
   cases q:H b with
   |none=>rfl
   |some u=>
    have e':b=a:=hA b (by rw[q];simp)
    subst e'
    rw[hK (by rw[q];simp)] at e;cases e)
  have hM:Mod K mg (rT s₁.heap H):=⟨O0,Ms Mh,⟨mb,Ms hb,Qv⟩,let ⟨mc,h1,h2⟩:=KI;⟨mc,Ms h1,h2⟩⟩
  have e0:Env0 P w K mg (rT s₁.heap H) callerA [] s₁ H:=⟨rfl,hM,fun b o e=>Fw e,Nat.le_of_eq (zS _ _),trivial,fun b hb=>absurd (show b∈([]:List Addr) from hb) (by simp),hok, .of_eq hg⟩
  refine codeAny_mono ((F _ O0 (Ms Mh)).run callerA [] s₁ H ⟨[.ref a],[]⟩ [.ref a] [.ref a] _ _ hr e0 (Kv s₁ (.ref a)) (.cons rfl .nil) (EC H hO hS)) fun r s' h=>?_
  cases r with
  |error e=>exact(MV H e s' h).elim
  |ok fl=>
   cases fl with
   |next=>exact False.elim h
   |brk=>exact False.elim h
   |cont=>exact False.elim h
   |ret u=>
    obtain⟨v,H',os,bare,un,NC,r',q⟩:=h
    have q':v= .bl true:=q
    subst q'
    obtain rfl:u=Value.bool true:=r'
    refine⟨rfl,OldK.of_keep fun b o e=>?_,os,bare⟩
    cases q:H b with
    |none=>exact un.keep b o e q (by intro z;exact absurd (show b∈([]:List Addr) from z) (by simp)) (by simp)
    |some u=>
     rcases hO b with z | ⟨ob,xs,z⟩
     ·rw[q] at z;cases z
     ·have z2:=un.frzs b ob _ z
      obtain⟨e1,_⟩:=hok b _ z
      obtain⟨e2,_⟩:=NC b _ z2
      rw[e] at e1;cases e1
      exact e2
 cases hk:K.lookup a with
 |some o=>
  have e:=KX a o hk
  rw[ha] at e
  cases e
  refine core (fun _=>none) (fun _=> .inl rfl) (.inr ⟨_,vs.toArray,_,hk,rfl,rfl,rfl,by rw[List.size_toArray,N3];exact hl,by simpa using rv⟩) (fun b u z=>by have z':(none:Option HO)=some u:=z;cases z') (fun b z=>absurd rfl z) fun z=>absurd rfl z
 |none=>
  refine core (fun b=>if b=a then some (.frz {cls:= .type "list",data:= .seq vs.toArray} (.lst (ns.map V.int))) else none) (fun b=>?_) (.inl (.inr ⟨{cls:= .type "list",data:= .seq vs.toArray},if_pos rfl⟩)) (fun b u z=>?_) (fun b z=>?_) fun _=>hk
  ·by_cases hb:b=a
   ·exact .inr ⟨_,_,if_pos hb⟩
   ·exact .inl (if_neg hb)
  ·by_cases hb:b=a
   ·have z':=(if_pos hb).symm.trans z
    cases z'
    subst hb
    exact⟨ha,by rw[List.length_map];exact hl,vs,_,rv,ha⟩
   ·have z':=(if_neg hb).symm.trans z
    cases z'
  ·by_cases hb:b=a
   ·exact hb
   ·exact absurd (if_neg hb) z
abbrev RG{K:W.Frag}{h:Heap}(_:K.In h):W.Frag:=K
theorem Mz{l:PySem.W.OpenLaw}{n k:Nat}{q:Program}{loose:List Str}{XP:(Str→Option Value)→Heap→Prop}{YP:World→Heap→Prop}{d:DefRec}{K:Params→W.Frag}{CX:World→v5}{sp:World→Sp}{x:Str}
 (hn:l.most=some n)(Mg:n≤sizeLine)(Kx:d.params.defaults=[])(hr:Room k callerA)
 (hY:∀(w:World) (h:Heap),YP w h→(K w.params).In h)
 (F:∀(w:World) (mg:Str→Option Value) (fa:Addr) (h:Heap),(K w.params).In h→h.Ns mainGlobals mg→mg d.name=some (.ref fa)→
  ∃fd:FuncData,(∀(s:Shared) (u:Value),BindsTo s fd ⟨[u],[]⟩ [(x,u)])∧
   ∀base:Heap,(K w.params).In base→base.Ns mainGlobals mg→FnOk l.prog w (K w.params) mg base (CX w) k fa fd [x] (sp w))
 (EC:∀(w:World) (H:Hp) (a:Addr) (ns:List Int),ns.length≤n→Hj H→SqL (K w.params) H a (ns.map V.int)→sp w [.ref a] H (fun v _=>v= .bl true) fun _ _ _=>False)
 (MV:∀(w:World) (H:Hp) (s:Shared) (e:Value) (s':Shared),CX w [] H s (fun _ _ _=>False) e s'→False):
 PySem.W.WalkO q loose XP YP l.row.toRowW d [] (fun f vs=>PySem.call f vs):=by
 refine Att.attach_call hn Kx fun w s₀ s₁ mg mb fa o pm cd doc a vs ns G Y ho hd v3 HS Cg hints hlen hg=>?_
 have KX:=hY w _ Y
 obtain⟨fd,hb,hF⟩:=F w mg fa _ KX G.T.g HS
 exact uC KX G.T.g G.T.b G.T.builtins G.T.nolimit hg Cg hints (Nat.le_trans hlen Mg) hr hF hb (fun H hO hS=>EC w H a ns hlen hO hS) fun H e s'=>MV w H s₁ e s'
abbrev ME:v5:=fun _ _ _ _ _ _=>False
structure Fun (K:W.Frag) (x qual:Str) (st:Stmt) (f:Addr) (fd:FuncData):Prop where
 ex:∃(oc:Value) (od:Option Addr) (kV doc pm:Value) (an:Option Addr) (cj ct:Value) (FG:Array (Option Value)),
  fd=PySem.W.fnOf x qual (d7 st) (bO st) (af st) .none kV doc pm an cj ct∧K.lookup f=some ⟨oc,od, .func fd,FG⟩∧PySem.W.codeIn K cj qual=true
 kp:PySem.W.keepIn K (.ref f)=true
section
variable{P:Program}{w:World}{K:W.Frag}{mg:Str→Option Value}{base:Heap}
theorem Fun.ok{x qual:Str}{st:Stmt}{f:Addr}{fd:FuncData}{N ps:List Str}{k:Nat}{sp:Sp}(F:Fun K x qual st f fd)(S:FnScope N ps (af st))(len:∀vs H Q E,sp vs H Q E→vs.length=ps.length)
 (nH:∀(cj:Value) (A:Around) (outer:List Env) (s:Shared) (H:Hp) (vs:List V) (Q:VK) (E:XK),Room k (A.deeper (envOfC qual (af st) s.heap.objs.size f cj))→sp vs H Q E→
  ∃t,PSs (fQ ME P w K mg base N qual (af st) f cj A outer s H E).nox (bO st) t∧t {nx:=fun _ H'=>Q .non H',rt:=Q} (start N vs) H):FnOk P w K mg base ME (k+1) f fd ps sp:=by
 obtain⟨oc,od,kV,doc,pm,an,cj,ct,FG,rfl,lk,v3⟩:=F.ex
 refine GP lk v3 S len fun A outer s H vs Q E hr EC=>?_
 obtain⟨t,h,q⟩:=nH cj A outer s H vs Q E hr EC
 exact⟨t,h.nox,q⟩
theorem Fun.binds{x qual:Str}{st:Stmt}{f:Addr}{fd:FuncData}{ps:List Str}(F:Fun K x qual st f fd)
 (h:∀(kV doc pm:Value) (an:Option Addr) (cj ct:Value) (us:List Value),us.length=ps.length→bindArgs (PySem.W.fnOf x qual (d7 st) (bO st) (af st) .none kV doc pm an cj ct) ⟨us,[]⟩=pure (ps.zip us)):Binds K fd ps []:=by
 obtain⟨oc,od,kV,doc,pm,an,cj,ct,FG,rfl,lk,v3⟩:=F.ex
 exact .all (h kV doc pm an cj ct)
theorem B4{x qual:Str}{st:Stmt}{f:Addr}{oc:Value}{od an:Option Addr}{FG:Array (Option Value)}{kV doc pm cj ct:Value}(l:K.lookup f=some ⟨oc,od, .func (PySem.W.fnOf x qual (d7 st) (bO st) (af st) .none kV doc pm an cj ct),FG⟩)
 (c:PySem.W.codeIn K cj qual=true)(k:PySem.W.keepIn K (.ref f)=true):Fun K x qual st f (PySem.W.fnOf x qual (d7 st) (bO st) (af st) .none kV doc pm an cj ct):=⟨⟨oc,od,kV,doc,pm,an,cj,ct,FG,rfl,l,c⟩,k⟩
end
section
variable{X:Cx}
theorem pv(i:Nat){x:Str}{pos:Pos}(hN:X.N[i]? =some x:=by rfl)(hv:ML X.env.scope x:=by first | exact Or.inl rfl | exact Or.inr (Or.inl rfl) | exact Or.inr (Or.inr rfl))(hd:(x==("__debug__":Str))=false:=by decide)
 (v3:(x==("__classdict__":Str))=false:=by decide):PE X (.Name x pos) (o_ i):=Ji hN hv hd v3
end
def Same(H H':Hp):Prop:=∀b o,H b=some o→H' b=some o
theorem Same.refl(H:Hp):Same H H:=fun _ _ h=>h
theorem Same.trans{H H1 H2:Hp}(a:Same H H1)(b:Same H1 H2):Same H H2:=fun c o h=>b c o (a c o h)
theorem Same.free{H H':Hp}(e:Same H H'){l:Addr}(h:H' l=Option.none):H l=Option.none:=by
 cases q:H l with
 |none=>rfl
 |some o=>
  rw[e l o q] at h
  cases h
theorem Same.seq{K:W.Frag}{H H':Hp}{a:Addr}{xs:List V}(e:Same H H')(h:SqL K H a xs):SqL K H' a xs:=by
 rcases h with(h | ⟨o,h⟩) | h
 ·exact .inl (.inl (e _ _ h))
 ·exact .inl (.inr ⟨o,e _ _ h⟩)
 ·exact .inr h
section
variable{κ:Type}[DecidableEq κ]
def jh(ar:List (κ×V))(k:κ):Option V:=(ar.find? fun kv=>decide (kv.1=k)).map (·.2)
def putK(ar:List (κ×V))(k:κ)(v:V):List (κ×V):=
 if (ar.any fun kv=>decide (kv.1=k))=true then ar.map (fun kv=>if kv.1=k then(kv.1,v) else kv) else ar++[(k,v)]
def GI(ar:List (κ×V))(k:κ):List (κ×V):=ar.filter fun kv=>decide (kv.1≠k)
theorem kN{p:κ×V}{r:List (κ×V)}{k:κ}(e:p.1=k):jh (p::r) k=some p.2:=by simp[jh,List.find?_cons,e]
theorem iO{p:κ×V}{r:List (κ×V)}{k:κ}(e:¬p.1=k):jh (p::r) k=jh r k:=by simp[jh,List.find?_cons,e]
theorem kM(k:κ):∀ar:List (κ×V),(ar.any fun kv=>decide (kv.1=k))=(jh ar k).isSome
 |[]=>rfl
 |p::r=>by
  rw[List.any_cons]
  by_cases e:p.1=k
  ·simp only[kN e,decide_eq_true e,Bool.true_or,Option.isSome_some]
  ·rw[iO e,decide_eq_false e,Bool.false_or];exact kM k r
theorem dj(ar:List (κ×V))(k:κ)(v:V):(putK ar k v).length≤ar.length+1:=by
 unfold putK
 split
 ·rw[List.length_map];omega
 ·rw[List.length_append,List.length_cons,List.length_nil];omega
theorem DD{ar:List (κ×V)}{k:κ}(v:V)(h:jh ar k=none):putK ar k v=ar++[(k,v)]:=by
 unfold putK
 rw[kM,h]
 exact if_neg (by decide)
theorem RelO.isSome_eq{o:Option V}{u:Option Value}(r:RelO o u):o.isSome=u.isSome:=by
 cases o with
 |none=>cases u with
  |none=>rfl
  |some _=>exact(show False from r).elim
 |some _=>cases u with
  |none=>exact(show False from r).elim
  |some _=>rfl
theorem RelO.getD{o:Option V}{u:Option Value}{d:V}{d':Value}(r:RelO o u)(rd:RelV d d'):RelV (o.getD d) (u.getD d'):=by
 cases o with
 |none=>cases u with
  |none=>exact rd
  |some _=>exact(show False from r).elim
 |some _=>cases u with
  |none=>exact(show False from r).elim
  |some _=>exact r
theorem KV.val{ar:List (κ×V)}{vs:List (κ×Value)}(r:KV ar vs)(k:κ):RelO (jh ar k) (valueAt vs k):=by
 unfold KV at r
 induction r with
 |nil=>exact True.intro
 | @cons p q ps qs h t ih=>
   obtain⟨h1,h2⟩:=h
   by_cases e:p.1=k
   ·have e':q.1=k:=h1.symm.trans e
    have b:valueAt (q::qs) k=some q.2:=by simp[valueAt,List.find?_cons,e']
    rw[kN e,b];exact h2
   ·have e':¬q.1=k:=fun z=>e (h1.trans z)
    have b:valueAt (q::qs) k=valueAt qs k:=by simp[valueAt,List.find?_cons,e']
    rw[iO e,b];exact ih
theorem KV.any{ar:List (κ×V)}{vs:List (κ×Value)}(r:KV ar vs)(k:κ):(ar.any fun kv=>decide (kv.1=k))=vs.any fun kv=>decide (kv.1=k):=by
 unfold KV at r
 induction r with
 |nil=>rfl
 |cons h t ih=>rw[List.any_cons,List.any_cons,ih,h.1]
theorem KV.repl{ar:List (κ×V)}{vs:List (κ×Value)}(r:KV ar vs)(k:κ){y:V}{u:Value}(ry:RelV y u):
 KV (ar.map fun kv=>if kv.1=k then(kv.1,y) else kv) (vs.map fun kv=>if kv.1=k then(kv.1,u) else kv):=by
 unfold KV at r⊢
 induction r with
 |nil=>exact .nil
 | @cons p q ps qs h t ih=>
   rw[List.map_cons,List.map_cons]
   refine .cons ?_ ih
   obtain⟨h1,h2⟩:=h
   by_cases e:p.1=k
   ·rw[if_pos e,if_pos (h1.symm.trans e)];exact⟨h1,ry⟩
   ·rw[if_neg e,if_neg (fun z=>e (h1.trans z))];exact⟨h1,h2⟩
theorem KV.put{ar:List (κ×V)}{vs:List (κ×Value)}(r:KV ar vs)(k:κ){y:V}{u:Value}(ry:RelV y u):KV (putK ar k y) (stored vs k u):=by
 unfold putK stored
 rw[r.any k]
 by_cases e:(vs.any fun kv=>decide (kv.1=k))=true
 ·rw[if_pos e,if_pos e];exact r.repl k ry
 ·rw[if_neg e,if_neg e];exact Paired.snoc r ⟨rfl,ry⟩
theorem KV.drop{ar:List (κ×V)}{vs:List (κ×Value)}(r:KV ar vs)(k:κ):KV (GI ar k) (without vs k):=by
 unfold KV at r⊢
 unfold GI without
 induction r with
 |nil=>exact .nil
 | @cons p q ps qs h t ih=>
   obtain⟨h1,h2⟩:=h
   rw[List.filter_cons,List.filter_cons]
   by_cases e:p.1=k
   ·have a:¬decide (p.1≠k)=true:=by simp[e]
    have b:¬decide (q.1≠k)=true:=by simp[h1.symm.trans e]
    rw[if_neg a,if_neg b];exact ih
   ·have e':¬q.1=k:=fun z=>e (h1.trans z)
    have a:decide (p.1≠k)=true:=by simp[e]
    have b:decide (q.1≠k)=true:=by simp[e']
    rw[if_pos a,if_pos b];exact .cons ⟨h1,h2⟩ ih
theorem KV.length{ar:List (κ×V)}{vs:List (κ×Value)}(r:KV ar vs):ar.length=vs.length:=Paired.length r
end
theorem qr{P:Program}{w:World}{k:Key}{u:Value}(r:RelV (kV k) u):(aY P w).is k u=true:=by
 cases k with
 |inl i=>obtain⟨t,e⟩:=(show∃t,u=Value.int i t from r);subst e;exact uK P w i t
 |inr x=>obtain⟨t,e⟩:=(show∃t,u=Value.str x t from r);subst e;exact l8 P w x t
theorem IA{a b:Key}(e:kV a=kV b):a=b:=by
 cases a with
 |inl i=>cases b with
  |inl j=>have e':V.int i=V.int j:=e;injection e' with e';rw[e']
  |inr y=>exact nomatch (show V.int i=V.str y from e)
 |inr x=>cases b with
  |inl j=>exact nomatch (show V.str x=V.int j from e)
  |inr y=>have e':V.str x=V.str y:=e;injection e' with e';rw[e']
theorem yE:∀{a b:List Key},a.map kV=b.map kV→a=b
 |[],[],_=>rfl
 |[],_::_,e=>by simp at e
 |_::_,[],e=>by simp at e
 |x::xs,y::ys,e=>by
  rw[List.map_cons,List.map_cons] at e
  injection e with e1 e2
  rw[IA e1,yE e2]
theorem qp{P:Program}{w:World}:∀{ks:List Key}{us:List Value},Vals (ks.map kV) us→ItemsAre (aY P w) ks us
 |[],_,r=>by rw[List.map_nil] at r;cases r;exact .nil
 |k::ks,_,r=>by
  rw[List.map_cons] at r
  cases r with
  |cons h t=>exact .cons (qr h) (qp t)
abbrev KT(H:Hp):List (List Key×V)→List (List Key×Addr×Value)→Prop:=Paired fun p q=>p.1=q.1∧H q.2.1=some (.tup (p.1.map kV))∧RelV p.2 q.2.2
theorem KT.val{H:Hp}{ar:List (List Key×V)}{xs:List (List Key×Addr×Value)}(r:KT H ar xs)(k:List Key):RelO (jh ar k) ((atKey xs k).map (·.2)):=by
 induction r with
 |nil=>exact True.intro
 | @cons p q ps qs h t ih=>
   obtain⟨h1,_,h2⟩:=h
   by_cases e:p.1=k
   ·have e':q.1=k:=h1.symm.trans e
    have b:atKey (q::qs) k=some q.2:=by simp[atKey,List.find?_cons,e']
    rw[kN e,b];exact h2
   ·have e':¬q.1=k:=fun z=>e (h1.trans z)
    have b:atKey (q::qs) k=atKey qs k:=by simp[atKey,List.find?_cons,e']
    rw[iO e,b];exact ih
theorem KT.repl{H:Hp}{ar:List (List Key×V)}{xs:List (List Key×Addr×Value)}(r:KT H ar xs)(k:List Key){y:V}{u:Value}(ry:RelV y u):
 KT H (ar.map fun kv=>if kv.1=k then(kv.1,y) else kv) (xs.map (putAt k u)):=by
 induction r with
 |nil=>exact .nil
 | @cons p q ps qs h t ih=>
   rw[List.map_cons,List.map_cons]
   refine .cons ?_ ih
   obtain⟨h1,h2,h3⟩:=h
   unfold putAt
   by_cases e:p.1=k
   ·rw[if_pos e,if_pos (h1.symm.trans e)];exact⟨h1,h2,ry⟩
   ·rw[if_neg e,if_neg (fun z=>e (h1.trans z))];exact⟨h1,h2,h3⟩
theorem KT.put{H:Hp}{ar:List (List Key×V)}{xs:List (List Key×Addr×Value)}(r:KT H ar xs)(k:List Key){b:Addr}{y:V}{u:Value}(hb:H b=some (.tup (k.map kV)))(ry:RelV y u):
 KT H (putK ar k y) (storedH xs k b u):=by
 have e:(ar.any fun kv=>decide (kv.1=k))=(atKey xs k).isSome:=by
  rw[kM,(r.val k).isSome_eq,Option.isSome_map]
 unfold putK storedH
 rw[e]
 by_cases q:(atKey xs k).isSome=true
 ·rw[if_pos q,if_pos q];exact r.repl k ry
 ·rw[if_neg q,if_neg q];exact Paired.snoc r ⟨rfl,hb,ry⟩
theorem KT.keeps{H H':Hp}{ar:List (List Key×V)}{xs:List (List Key×Addr×Value)}(r:KT H ar xs)(ht:∀b ys,H b=some (.tup ys)→H' b=some (.tup ys)):KT H' ar xs:=
 Paired.mapP r fun _ _ z=>⟨z.1,ht _ _ z.2.1,z.2.2⟩
section
variable{P:Program}{w:World}{H:Hp}{h:Heap}{a:Addr}
theorem Hd{u:HO}(ok:HOk P w H h)(e:Rd H a u):ObjOk P w H h a u:=e.ok ok
theorem qc{ar:List (Key×V)}(ok:HOk P w H h)(e:Rd H a (.dK ar)):ar.length≤sizeLine∧(a==sysModules)=false∧∃vs,KV ar vs∧h.DictOf (aY P w) a vs:=
 show ObjOk P w H h a (.dK ar) from Hd ok e
theorem GH{ar:List (Key×V)}(ok:HOk P w H h)(e:H a=some (.dK ar)):ar.length≤sizeLine∧(a==sysModules)=false∧∃vs,KV ar vs∧h.DictOf (aY P w) a vs:=qc ok (.inl e)
theorem lj{ks:List Key}(ok:HOk P w H h)(e:H a=some (.tup (ks.map kV))):(tupleKind (aY P w)).is h ks a:=by
 obtain⟨_,aD,r,o,h1,h2,n,h3⟩:=(show ObjOk P w H h a (.tup (ks.map kV)) from ok a _ e)
 exact⟨o,aD.toArray,n,h1,h2,h3,by simpa using qp r⟩
theorem nz{ar:List (List Key×V)}(ok:HOk P w H h)(e:Rd H a (.dT ar)):ar.length≤sizeLine∧(a==sysModules)=false∧
 ∃xs,KT H ar xs∧h.DictOfH (tupleKind (aY P w)) a xs:=by
 obtain⟨z,y,xs,r,o,es,ep,h1,h2,h3,h4,h5⟩:=(show ObjOk P w H h a (.dT ar) from Hd ok e)
 refine⟨z,y,xs,r,o,es,ep,h1,h2,h3,h4,fun x hx=>?_,h5⟩
 have all:∀{l:List (List Key×V)}{m:List (List Key×Addr×Value)},KT H l m→∀x∈m,(tupleKind (aY P w)).is h x.1 x.2.1:=by
  intro l m q
  induction q with
  |nil=>intro x hx;exact nomatch hx
  | @cons p q ps qs hq t ih=>
    intro x hx
    rcases List.mem_cons.mp hx with e | hx
    ·subst e
     exact lj ok (by rw[←hq.1];exact hq.2.1)
    ·exact ih x hx
 exact all r x hx
theorem BU{ar:List (List Key×V)}(ok:HOk P w H h)(e:H a=some (.dT ar)):ar.length≤sizeLine∧(a==sysModules)=false∧
 ∃xs,KT H ar xs∧h.DictOfH (tupleKind (aY P w)) a xs:=nz ok (.inl e)
end
def pC(H:Hp)(a:Addr)(y:V)(r:Option V):Prop:=
 (∃ar k,Rd H a (.dK ar)∧y=kV k∧r=jh ar k)∨∃ar k b,Rd H a (.dT ar)∧y= .ref b∧H b=some (.tup (k.map kV))∧r=jh ar k
def DPut(H:Hp)(a:Addr)(y v:V)(H':Hp):Prop:=
 (∃ar k,H a=some (.dK ar)∧y=kV k∧ar.length<sizeLine∧H'=upd H a (.dK (putK ar k v)))∨
 ∃ar k b,H a=some (.dT ar)∧y= .ref b∧H b=some (.tup (k.map kV))∧ar.length<sizeLine∧H'=upd H a (.dT (putK ar k v))
theorem DPut.k{H:Hp}{a:Addr}{ar:List (Key×V)}{k:Key}{v:V}(e:H a=some (.dK ar))(hl:ar.length<sizeLine):DPut H a (kV k) v (upd H a (.dK (putK ar k v))):= .inl ⟨ar,k,e,rfl,hl,rfl⟩
theorem DPut.t{H:Hp}{a b:Addr}{ar:List (List Key×V)}{k:List Key}{v:V}(e:H a=some (.dT ar))(eb:H b=some (.tup (k.map kV)))(hl:ar.length<sizeLine):
 DPut H a (.ref b) v (upd H a (.dT (putK ar k v))):= .inr ⟨ar,k,b,e,rfl,eb,hl,rfl⟩
section
variable{X:Cx}{pins:List (Addr×Obj)}{σ:St}{H:Hp}{s:Shared}{a:Addr}{y v:V}{u r:Value}{o:Option V}{A:Around}{E:Value→Shared→Prop}
theorem Inv.big(I:Inv X pins σ H s):sysModules<s.heap.objs.size:=by
 have h:mainGlobals<s.heap.objs.size:=(I.mod.glob.keeps I.bk).lt
 exact Nat.lt_trans (by decide) h
theorem zH{Q:Value→Shared→Prop}(hu:A.units+1<cLine)(I:Inv X pins σ H s)(g:pC H a y (some v))(ry:RelV y u)(h:∀w' s',Inv X pins σ H s'→RelV v w'→Q w' s'):
 wpAny (model X.prog X.w) A (getItem (.ref a) u) Q E s:=by
 rcases g with⟨ar,k,e,ey,l⟩ | ⟨ar,k,b,e,ey,eb,l⟩
 ·subst ey
  obtain⟨z,hd,vs,rel,dd⟩:=qc I.hok e
  obtain⟨w',hw,Bo⟩:=RelO.some_of (v:=v) (o:=valueAt vs k) (by rw[l];exact rel.val k)
  exact wpAny_getItem_of (qr ry) dd.mapOf hw (h w' _ (I.tok _) Bo)
 ·subst ey
  cases (show u=Value.ref b from ry)
  obtain⟨z,hd,xs,rel,dd⟩:=nz I.hok e
  obtain⟨w',hw,Bo⟩:=RelO.some_of (v:=v) (o:=(atKey xs k).map (·.2)) (by rw[l];exact rel.val k)
  obtain⟨p,hp,NG⟩:=Option.map_eq_some_iff.mp hw
  refine wpAny_getItem_heap (tupleKind_room_in1 hu) (lj I.hok eb) dd hp ?_
  rw[NG]
  exact h w' _ (I.tok _) Bo
theorem MP{Q:Value→Shared→Prop}(hu:A.units+1<cLine)(I:Inv X pins σ H s)(g:pC H a y o)(ry:RelV y u)(h:∀s',Inv X pins σ H s'→Q (.bool o.isSome) s'):
 wpAny (model X.prog X.w) A (compareOp .In u (.ref a)) Q E s:=by
 rcases g with⟨ar,k,e,ey,l⟩ | ⟨ar,k,b,e,ey,eb,l⟩
 ·subst ey
  obtain⟨z,hd,vs,rel,dd⟩:=qc I.hok e
  refine wpAny_in_of (qr ry) hd dd.mapOf ?_
  rw[←(rel.val k).isSome_eq,←l]
  exact h _ (I.tok _)
 ·subst ey
  cases (show u=Value.ref b from ry)
  obtain⟨z,hd,xs,rel,dd⟩:=nz I.hok e
  refine wpAny_in_heap (tupleKind_room_in1 hu) (lj I.hok eb) hd dd ?_
  have q:=(rel.val k).isSome_eq
  rw[Option.isSome_map] at q
  rw[←q,←l]
  exact h _ (I.tok _)
theorem EN{Q:Value→Shared→Prop}(hu:A.units+1<cLine)(I:Inv X pins σ H s)(g:pC H a y o)(ry:RelV y u)(h:∀s',Inv X pins σ H s'→Q (.bool (!o.isSome)) s'):
 wpAny (model X.prog X.w) A (compareOp .NotIn u (.ref a)) Q E s:=by
 rcases g with⟨ar,k,e,ey,l⟩ | ⟨ar,k,b,e,ey,eb,l⟩
 ·subst ey
  obtain⟨z,hd,vs,rel,dd⟩:=qc I.hok e
  refine wpAny_notIn_of (qr ry) hd dd.mapOf ?_
  rw[←(rel.val k).isSome_eq,←l]
  exact h _ (I.tok _)
 ·subst ey
  cases (show u=Value.ref b from ry)
  obtain⟨z,hd,xs,rel,dd⟩:=nz I.hok e
  refine wpAny_notIn_heap (tupleKind_room_in1 hu) (lj I.hok eb) hd dd ?_
  have q:=(rel.val k).isSome_eq
  rw[Option.isSome_map] at q
  rw[←q,←l]
  exact h _ (I.tok _)
theorem jP{h':Heap}{t':Nat}{ob:HO}(I:Inv X pins σ H s)(mu:J5 (H a))(hs:Heap.SameBut a s.heap h')(he:∃q,h'.get? a=some q)(new:ObjOk X.prog X.w (upd H a ob) h' a ob):
 Inv X pins σ (upd H a ob) {s with heap:=h',toks:=t'}:=
 I.write (x:=a) (e:=a) mu (.inl rfl) (fun b q hb z=>(hs.2 b hb).trans z) he new
theorem BS{P:Program}{w:World}{H':Hp}{h':Heap}{ar:List (Key×V)}{vs:List (Key×Value)}(z:ar.length≤sizeLine)(hd:(a==sysModules)=false)(rel:KV ar vs)(dd:h'.DictOf (aY P w) a vs):
 ObjOk P w H' h' a (.dK ar):=⟨z,hd,vs,rel,dd⟩
theorem zI{H':Hp}{Q:Unit→Shared→Prop}(hu:A.units+1<cLine)(I:Inv X pins σ H s)(g:DPut H a y v H')(ry:RelV y u)(rv:RelV v r)(h:∀s',Inv X pins σ H' s'→Q () s'):
 wpAny (model X.prog X.w) A (setItem (.ref a) u r) Q E s:=by
 rcases g with⟨ar,k,e,ey,l,eH⟩ | ⟨ar,k,b,e,ey,eb,l,eH⟩
 ·subst ey eH
  obtain⟨z,hd,vs,rel,dd⟩:=GH I.hok e
  have hz:vs.length≤sizeLine:=by rw[←rel.length];exact z
  have hl:(putK ar k v).length≤sizeLine:=by have:=dj ar k v;omega
  refine wpAny_setItem_pairs (hsz:=hz) (qr ry) dd fun h' BP hs=>h _ ?_
  have he:∃q,h'.get? a=some q:=let ⟨q,_,_,hq,_⟩:=BP;⟨q,hq⟩
  exact jP I (by rw[e];exact True.intro) hs he (BS hl hd (rel.put k rv) BP)
 ·subst ey eH
  cases (show u=Value.ref b from ry)
  obtain⟨z,hd,xs,rel,dd⟩:=BU I.hok e
  have hz:xs.length≤sizeLine:=by rw[←Paired.length rel];exact z
  have hl:(putK ar k v).length≤sizeLine:=by have:=dj ar k v;omega
  refine wpAny_setItem_heap (hsz:=hz) (tupleKind_room_in1 hu) (lj I.hok eb) dd fun h' BP hs=>h _ ?_
  obtain⟨q,es,ep,hq,h2,h3,h4,_,h5⟩:=BP
  refine jP I (by rw[e];exact True.intro) hs ⟨q,hq⟩ ⟨hl,hd,_,(rel.put k eb rv).keeps fun c ys ec=>?_,q,es,ep,hq,h2,h3,h4,h5⟩
  rw[au (CN ec e (fun z=>nomatch z))]
  exact ec
end
section
variable{X:Cx}{pins:List (Addr×Obj)}{σ:St}{H:Hp}{s:Shared}{a:Addr}{ar:List (Key×V)}{k:Key}{u:Value}{A:Around}{E:Value→Shared→Prop}
end
def Hi(i:Expr):Prop:=∀ov iv,subscripted i false ov iv=operate [ov,iv] (getItem ov iv)
theorem Gp{prog:Program}{w:World}{A:Around}{E:Value→Shared→Prop}{s:Shared}{env:Env}{value slice:Expr}{pos:Pos}{T id:String}{Q:Value→Shared→Prop}
 (hl:typeLookup (.type T) "__getitem__"=pure (some (.builtin id)))(hs:Hi slice)
 (h:wpAny (model prog w) A (eval value env) (fun o s₁=>wpAny (model prog w) A (eval slice env) (fun i s₂=>s₂.TypeIs o T∧wpAny (model prog w) A (getItem o i) Q E s₂) E s₁) E s):
 wpAny (model prog w) A (eval (.Subscript value slice pos) env) Q E s:=by
 refine Subscript_ (wpAny_mono h (fun o s₁ h₁=>wpAny_mono h₁ (fun i s₂ h₂=>?_) fun _ _ x=>x) fun _ _ x=>x)
 obtain⟨hT,h₂⟩:=h₂
 unfold subscriptTail
 refine wpAny_bind ?_
 rw[getitemInPython_of_ne hT.not_modules]
 refine wpAny_bind (wpAny_specialOf hT hl ?_)
 have fin:wpAny (model prog w) A (subscripted slice false o i) (fun r s₃=>wpAny (model prog w) A (letTemporaryGo value o r>>=fun _=>pure r) Q E s₃) E s₂:=by
  rw[hs o i]
  exact wpAny_operating (wpAny_mono h₂ (fun r s₃ h₃=>wpAny_bind (wpAny_letTemporaryGo (wpAny_pure h₃))) fun _ _ x=>x)
 first
  |exact wpAny_pure (wpAny_bind fin)
  |exact wpAny_bind (wpAny_pure (wpAny_bind fin))
  |exact wpAny_bind fin
theorem uc{X:Cx}{pins:List (Addr×Obj)}{σ:St}{H:Hp}{s:Shared}{a:Addr}{y:V}{o:Option V}(I:Inv X pins σ H s)(g:pC H a y o):s.TypeIs (.ref a) "dict":=by
 rcases g with⟨ar,k,e,_,_⟩ | ⟨ar,k,b,e,_,_,_⟩
 ·obtain⟨_,_,vs,_,dd⟩:=qc I.hok e
  exact dd.typeIs
 ·obtain⟨_,_,xs,_,dd⟩:=nz I.hok e
  exact dd.typeIs
def LW(td ty:TE):TE:=fun σ H Q=>td σ H fun x H1=>ty σ H1 fun y H2=>∃a v,x= .ref a∧pC H2 a y (some v)∧Q v H2
def Oq(ty td:TE):TE:=fun σ H Q=>ty σ H fun y H1=>td σ H1 fun x H2=>∃a o,x= .ref a∧pC H2 a y o∧Q (.bl o.isSome) H2
def LR(td ty tv:TE):TS:=fun D σ H=>tv σ H fun v H1=>td σ H1 fun x H2=>ty σ H2 fun y H3=>∃a H4,x= .ref a∧DPut H3 a y v H4∧D.nx σ H4
section
variable{X:Cx}{o i e value:Expr}{pos pos' OB:Pos}{td ty tv:TE}
theorem FT(hu:X.A.units+1<cLine)(ho:PE X o td)(hi:PE X i ty)(hs:Hi i):PE X (.Subscript o i pos) (LW td ty):=by
 intro pins s σ H Q I h
 refine Gp PySem.F.slot_dict_getitem.lookup hs (b5 (ho pins s σ H _ I h) fun u s1 ⟨x,H1,I1,rx,q1⟩=>b5 (hi pins s1 σ H1 _ I1 q1) fun iv s2 ⟨y,H2,I2,ry,a,v,ex,g,q2⟩=>?_)
 subst ex
 obtain rfl:u=Value.ref a:=rx
 exact⟨uc I2 g,zH hu I2 g ry fun w' s3 I3 Bo=>⟨v,H2,I3,Bo,q2⟩⟩
theorem IV(hu:X.A.units+1<cLine)(hi:PE X i ty)(ho:PE X o td):PC X .In i o (Oq ty td):=by
 intro pins s σ H Q I h
 refine b5 (hi pins s σ H _ I h) fun iv s1 ⟨y,H1,I1,ry,q1⟩=>b5 (ho pins s1 σ H1 _ I1 q1) fun u s2 ⟨x,H2,I2,rx,a,ov,ex,g,q2⟩=>?_
 subst ex
 obtain rfl:u=Value.ref a:=rx
 exact MP hu I2 g ry fun s3 I3=>⟨.bl ov.isSome,H2,I3,rfl,q2⟩
theorem FX(hu:X.A.units+1<cLine)(ho:PE X o td)(hi:PE X i ty)(hv:PE X value tv)(hs:swapsWith value (some (.Subscript o i pos')) pos.line X.env=pure false):
 PS X (.Assign [.Subscript o i pos'] value pos) (LR td ty tv):=by
 intro pins s σ H D I h
 refine wpAny_Assign_Subscript (b5 (hv pins s σ H _ I h) fun r s1 ⟨v,H1,I1,rv,q1⟩=>b5 (ho pins s1 σ H1 _ I1 q1) fun u s2 ⟨x,H2,I2,rx,q2⟩=>b5 (hi pins s2 σ H2 _ I2 q2) fun iv s3 ⟨y,H3,I3,ry,a,H4,ex,g,q3⟩=>?_) hs
 subst ex
 obtain rfl:u=Value.ref a:=rx
 exact zI hu I3 g ry rv fun s4 I4=>⟨σ,H4,I4,q3⟩
end
theorem ud{P:Program}{w:World}{H:Hp}(h:Heap)(hb:sysModules<h.objs.size):ObjOk P w H (h.push {cls:= .type "dict",data:= .dict #[]}) h.objs.size (.dT []):=
 ⟨Nat.zero_le _,beq_eq_false_iff_ne.mpr (Ne.symm (Nat.ne_of_lt hb)),[], .nil,_,#[],0,Heap.get?_push_size _ rfl,⟨rfl,rfl,rfl⟩,rfl,rfl,List.nodup_nil⟩
def JD:TE:=fun _ H Q=>∀p,H p=none→Q (.ref p) (upd H p (.dT []))
section
variable{X:Cx}{pos:Pos}
theorem Dq:PE X (.Dict [] [] pos) JD:=fun pins s σ H Q I h=>
 wpAny_Dict_empty ⟨.ref s.heap.objs.size,_,I.laid (a:=s.heap.objs.size) (o:= .dT []) (t':=s.toks) (fun _ _ q=>Heap.get?_push_of_some _ q) (Nat.le_refl _) (ud s.heap I.big),rfl,h _ (I.hok.fresh (Nat.le_refl _))⟩
end
def Ee:List (TE×TE)→St→Hp→(List (V×V)→Hp→Prop)→Prop
 |[],_,H,Q=>Q [] H
 |(tk,tv)::r,σ,H,Q=>tk σ H fun x H1=>tv σ H1 fun y H2=>Ee r σ H2 fun ps H3=>Q ((x,y)::ps) H3
abbrev VV:List (V×V)→List (Value×Value)→Prop:=Paired fun p q=>RelV p.1 q.1∧RelV p.2 q.2
def MH(X:Cx)(pos:Pos)(keys:List (Option Expr))(values:List Expr)(Mx:List (TE×TE)):Prop:=
 ∀(pins:List (Addr×Obj)) (s:Shared) (σ:St) (H:Hp) (Q:List (V×V)→Hp→Prop),Inv X pins σ H s→Ee Mx σ H Q→
  wpAny (model X.prog X.w) X.A (evalPairs (pairTrees keys values X.env pos)) (fun vs s'=>∃ps H',Inv X pins σ H' s'∧VV ps vs∧Q ps H') X.xe s
theorem FW{X:Cx}{pos:Pos}:MH X pos [] [] []:=fun pins s σ H Q I h=>pairTrees_nil_walk ⟨[],H,I, .nil,h⟩
theorem Ds{X:Cx}{pos:Pos}{k v:Expr}{ks:List (Option Expr)}{vs:List Expr}{tk tv:TE}{Mx:List (TE×TE)}(hk:PE X k tk)(hv:PE X v tv)(hr:MH X pos ks vs Mx):
 MH X pos (some k::ks) (v::vs) ((tk,tv)::Mx):=fun pins s σ H Q I h=>
 pairTrees_cons_walk (b5 (hk pins s σ H _ I h) fun u s1 ⟨x,H1,I1,rx,q1⟩=>b5 (hv pins s1 σ H1 _ I1 q1) fun w2 s2 ⟨y,H2,I2,ry,q2⟩=>
  b5 (hr pins s2 σ H2 _ I2 q2) fun ws s3 ⟨ps,H3,I3,rel,q3⟩=>⟨(x,y)::ps,H3,I3, .cons ⟨rx,ry⟩ rel,q3⟩)
structure M1 (X:Cx) (o:Expr) (m:Str) (apos:Pos) (e:Expr) (bp:Pos):Prop where
 base:attributeBase o m X.env (eval o X.env)=eval o X.env
 few:((backTo bp (starEach [e] X.env)).all (fun x=>!x.1)&&(backToKw bp (keywordEach [] X.env)).all (fun x=>x.1.isSome)
  &&decide (([e]:List Expr).length+([]:List Keyword).length+(if ([]:List Keyword).isEmpty then 0 else 1)<30))=true
 line:(apos.endLine==bp.line)=true
 trees:backTo bp (starEach [e] X.env)=[(false,eval e X.env)]
structure M2 (X:Cx) (o:Expr) (m:Str) (apos:Pos) (e f:Expr) (bp:Pos):Prop where
 base:attributeBase o m X.env (eval o X.env)=eval o X.env
 few:((backTo bp (starEach [e,f] X.env)).all (fun x=>!x.1)&&(backToKw bp (keywordEach [] X.env)).all (fun x=>x.1.isSome)
  &&decide (([e,f]:List Expr).length+([]:List Keyword).length+(if ([]:List Keyword).isEmpty then 0 else 1)<30))=true
 line:(apos.endLine==bp.line)=true
 trees:backTo bp (starEach [e,f] X.env)=[(false,eval e X.env),(false,eval f X.env)]
def OE(H:Hp)(a:Addr):Prop:=(∃ar,Rd H a (.dK ar))∨∃ar,Rd H a (.dT ar)
theorem Il{X:Cx}{pins:List (Addr×Obj)}{σ:St}{H:Hp}{s:Shared}{a:Addr}(I:Inv X pins σ H s)(d:OE H a):
 s.TypeIs (.ref a) "dict"∧(∀b,Value.ref a= .ref b→∃ob,s.heap.get? b=some ob∧ob.dict=none)∧(a==sysModules)=false:=by
 rcases d with⟨ar,e⟩ | ⟨ar,e⟩
 ·obtain⟨_,hd,vs,_,dd⟩:=qc I.hok e
  refine⟨dd.typeIs,fun b q=>?_,hd⟩
  cases q
  obtain⟨ob,_,_,h1,h2,_⟩:=dd
  exact⟨ob,h1,h2.2.1⟩
 ·obtain⟨_,hd,xs,_,dd⟩:=nz I.hok e
  refine⟨dd.typeIs,fun b q=>?_,hd⟩
  cases q
  obtain⟨ob,_,_,h1,h2,_⟩:=dd
  exact⟨ob,h1,h2.2.1⟩
section
variable{X:Cx}{pins:List (Addr×Obj)}{σ:St}{H:Hp}{s:Shared}{a:Addr}{y d:V}{u r:Value}{o:Option V}{A:Around}{E:Value→Shared→Prop}
end
section
variable{X:Cx}{o e f:Expr}{apos bp:Pos}{td ty tx:TE}
end
section
variable{X:Cx}{pins:List (Addr×Obj)}{σ:St}{H:Hp}{s:Shared}{a:Addr}{ar:List (Key×V)}{A:Around}{E:Value→Shared→Prop}
end
section
variable{X:Cx}{pins:List (Addr×Obj)}{σ:St}{H:Hp}{s:Shared}{a:Addr}{y:V}{u:Value}{A:Around}{E:Value→Shared→Prop}
end
end L2
namespace L3
open PySem PySem.Spec L2
open PyProof.Rows hiding St
inductive Rs (α:Type) where
 |ok (a:α) | ex (n:Nat)
def M(α:Type):=Option (Rs α)
def M.ret{α:Type}(a:α):M α:=some (.ok a)
def M.bind{α β:Type}(m:M α)(k:α→M β):M β:=match m with
 |none=>none
 |some (.ex n)=>some (.ex n)
 |some (.ok a)=>k a
def M.stuck{α:Type}:M α:=none
def M.raise{α:Type}(n:Nat):M α:=some (.ex n)
instance:Monad M where
 pure:=M.ret
 bind:=M.bind
@[simp] theorem ak{α β:Type}(a:α)(k:α→M β):(M.ret a>>=k)=k a:=rfl
@[simp] theorem Hm{α β:Type}(a:α)(k:α→M β):((pure a:M α)>>=k)=k a:=rfl
@[simp] theorem Hn{α β:Type}(n:Nat)(k:α→M β):(M.raise n>>=k)=M.raise n:=rfl
@[simp] theorem Ho{α β:Type}(k:α→M β):((M.stuck:M α)>>=k)=M.stuck:=rfl
theorem M.cs{α:Type}(m:M α):m=M.stuck∨(∃n,m=M.raise n)∨∃a,m=M.ret a:=by
 match m with
 |none=>exact .inl rfl
 |some (.ex n)=>exact .inr (.inl ⟨n,rfl⟩)
 |some (.ok a)=>exact .inr (.inr ⟨a,rfl⟩)
theorem eG{α:Type}{a b:α}(h:M.ret a=M.ret b):a=b:=by
 have h:some (Rs.ok a)=some (Rs.ok b):=h
 cases h
 rfl
theorem fc{α:Type}{a:α}(h:M.stuck=M.ret a):False:=by
 have h:none=some (Rs.ok a):=h
 cases h
theorem DH{α:Type}{n:Nat}{a:α}(h:M.raise n=M.ret a):False:=by
 have h:some (Rs.ex n)=some (Rs.ok a):=h
 cases h
theorem gg{α β:Type}{m:M α}{k:α→M β}{r:β}(h:(m>>=k)=M.ret r):∃a,m=M.ret a∧k a=M.ret r:=by
 rcases m.cs with e | ⟨n,e⟩ | ⟨a,e⟩
 ·subst e;exact(fc h).elim
 ·subst e;exact(DH h).elim
 ·subst e;exact⟨a,rfl,h⟩
def J2(h:Heap)(ea D:Addr):Prop:=∃ox,h.get? ea=some ox∧ox.cls= .ref D
def PY(ea D:Addr):HO:= .ext fun h=>J2 h ea D
inductive D where
 |non | bl (b:Bool) | int (i:Int) | str (x:Str) | raw (v:V) | exc (C:Addr) | scr (l:List Int) | tup (l:List D) | lst (l:List D)
 |dct (ks:List (List Key)) (l:List D) | dci (ks:List Key) (l:List D)
instance:Inhabited D:=⟨.non⟩
def lim:Nat:=4096
theorem c8:lim<sizeLine:=by rw[sizeLine_eq];decide
mutual
def Den(K:W.Frag)(F:Hp):D→V→Prop
 | .non,v=>v= .non
 | .bl b,v=>v= .bl b
 | .int i,v=>v= .int i
 | .str x,v=>v= .str x∧x.length≤lim
 | .raw u,v=>v=u
 | .exc C,v=>∃ea,v= .ref ea∧F ea=some (PY ea C)
 | .scr ns,v=>∃a,v= .ref a∧SqL K F a (ns.map V.int)∧ns.length≤lim
 | .tup ds,v=>∃a vs,v= .ref a∧F a=some (.tup vs)∧DenL K F ds vs∧ds.length≤lim
 | .lst ds,v=>∃a vs,v= .ref a∧F a=some (.lst vs)∧DenL K F ds vs∧ds.length≤lim
 | .dct ks ds,v=>∃a ob vs,v= .ref a∧F a=some (.frz ob (.dT (ks.zip vs)))∧DenL K F ds vs∧ks.length=ds.length∧ds.length≤lim
 | .dci ks ds,v=>∃a ob vs,v= .ref a∧F a=some (.frz ob (.dK (ks.zip vs)))∧DenL K F ds vs∧ks.length=ds.length∧ds.length≤lim
def DenL(K:W.Frag)(F:Hp):List D→List V→Prop
 |[],vs=>vs=[]
 |d::ds,vs=>∃v r,vs=v::r∧Den K F d v∧DenL K F ds r
end
theorem Same.rd{H H':Hp}{a:Addr}{u:HO}(e:Same H H')(h:Rd H a u):Rd H' a u:=by
 rcases h with h | ⟨o,h⟩
 ·exact .inl (e _ _ h)
 ·exact .inr ⟨o,e _ _ h⟩
theorem Same.tup{K:W.Frag}{H H':Hp}{a:Addr}{xs:List V}(e:Same H H')(h:SqT K H a xs):SqT K H' a xs:=by
 rcases h with h | h
 ·exact .inl (Same.rd e h)
 ·exact .inr h
section
variable{K:W.Frag}{F F':Hp}
mutual
theorem Den.mono(e:Same F F'):∀{d:D}{v:V},Den K F d v→Den K F' d v
 | .non,_,h=>h
 | .bl _,_,h=>h
 | .int _,_,h=>h
 | .str _,_,h=>h
 | .raw _,_,h=>h
 | .exc _,_,⟨a,h1,h2⟩=>⟨a,h1,e _ _ h2⟩
 | .scr _,_,⟨a,h1,h2,h3⟩=>⟨a,h1,Same.seq e h2,h3⟩
 | .tup _,_,⟨a,vs,h1,h2,h3,h4⟩=>⟨a,vs,h1,e _ _ h2,DenL.mono e h3,h4⟩
 | .lst _,_,⟨a,vs,h1,h2,h3,h4⟩=>⟨a,vs,h1,e _ _ h2,DenL.mono e h3,h4⟩
 | .dct _ _,_,⟨a,ob,vs,h1,h2,h3,h4⟩=>⟨a,ob,vs,h1,e _ _ h2,DenL.mono e h3,h4⟩
 | .dci _ _,_,⟨a,ob,vs,h1,h2,h3,h4⟩=>⟨a,ob,vs,h1,e _ _ h2,DenL.mono e h3,h4⟩
theorem DenL.mono(e:Same F F'):∀{ds:List D}{vs:List V},DenL K F ds vs→DenL K F' ds vs
 |[],_,h=>h
 |_::_,_,⟨v,r,h1,h2,h3⟩=>⟨v,r,h1,Den.mono e h2,DenL.mono e h3⟩
end
theorem DenL.nil:DenL K F [] []:=rfl
theorem DenL.cons{d:D}{v:V}{ds:List D}{vs:List V}(h:Den K F d v)(r:DenL K F ds vs):DenL K F (d::ds) (v::vs):=⟨v,vs,rfl,h,r⟩
theorem DenL.len:∀{ds:List D}{vs:List V},DenL K F ds vs→ds.length=vs.length
 |[],_,h=>by cases (show _=_ from h);rfl
 |_::ds,_,⟨v,r,h1,_,h3⟩=>by subst h1;rw[List.length_cons,List.length_cons,DenL.len h3]
theorem DenL.get:∀{ds:List D}{vs:List V}{i:Nat}{d:D},DenL K F ds vs→ds[i]? =some d→∃v,vs[i]? =some v∧Den K F d v
 |[],_,_,_,_,e=>by simp at e
 |d::ds,_,0,_,⟨v,r,h1,h2,h3⟩,e=>by subst h1;simp at e;subst e;exact⟨v,rfl,h2⟩
 |d::ds,_,i+1,_,⟨v,r,h1,h2,h3⟩,e=>by
  subst h1
  obtain⟨w,e1,e2⟩:=DenL.get (i:=i) h3 (by simpa using e)
  exact⟨w,by simpa using e1,e2⟩
theorem DenL.at:∀{ds:List D}{vs:List V}{i:Nat}{v:V},DenL K F ds vs→vs[i]? =some v→∃d,ds[i]? =some d∧Den K F d v
 |[],_,_,_,h,e=>by cases (show _=_ from h);simp at e
 |d::ds,_,0,_,⟨v,r,h1,h2,h3⟩,e=>by subst h1;simp at e;subst e;exact⟨d,rfl,h2⟩
 |d::ds,_,i+1,_,⟨v,r,h1,h2,h3⟩,e=>by
  subst h1
  obtain⟨w,e1,e2⟩:=DenL.at (i:=i) h3 (by simpa using e)
  exact⟨w,by simpa using e1,e2⟩
theorem DenL.append:∀{ds es:List D}{vs ws:List V},DenL K F ds vs→DenL K F es ws→DenL K F (ds++es) (vs++ws)
 |[],_,_,_,h,h'=>by cases (show _=_ from h);exact h'
 |d::ds,_,_,_,⟨v,r,h1,h2,h3⟩,h'=>by subst h1;exact⟨v,_,rfl,h2,DenL.append h3 h'⟩
theorem DenL.take:∀{ds:List D}{vs:List V}(n:Nat),DenL K F ds vs→DenL K F (ds.take n) (vs.take n)
 |_,_,0,_=>by simp[List.take];rfl
 |[],_,_+1,h=>by cases (show _=_ from h);rfl
 |d::ds,_,n+1,⟨v,r,h1,h2,h3⟩=>by subst h1;exact⟨v,_,rfl,h2,DenL.take n h3⟩
theorem DenL.drop:∀{ds:List D}{vs:List V}(n:Nat),DenL K F ds vs→DenL K F (ds.drop n) (vs.drop n)
 |_,_,0,h=>by simpa using h
 |[],_,_+1,h=>by cases (show _=_ from h);rfl
 |d::ds,_,n+1,⟨v,r,h1,h2,h3⟩=>by subst h1;exact DenL.drop n h3
theorem DenL.reverse:∀{ds:List D}{vs:List V},DenL K F ds vs→DenL K F ds.reverse vs.reverse
 |[],_,h=>by cases (show _=_ from h);rfl
 |d::ds,_,⟨v,r,h1,h2,h3⟩=>by
  subst h1
  rw[List.reverse_cons,List.reverse_cons]
  exact DenL.append (DenL.reverse h3) (.cons h2 .nil)
theorem DenL.ints(ns:List Int):DenL K F (ns.map D.int) (ns.map V.int):=by
 induction ns with
 |nil=>rfl
 |cons n ns ih=>exact .cons rfl ih
end
structure Ext (F H F' H':Hp):Prop where
 hh:Same H H'
 ff:Same F F'
 fh:Same F' H'
 new:∀a,H a≠none→F' a=F a∨∃ts,H a=some (.tup ts)
theorem Ext.old{F H F' H':Hp}(e:Ext F H F' H'){a:Addr}{o:HO}(h:H a=some o)(hn:∀ts,o≠ .tup ts):F' a=F a:=by
 rcases e.new a (by rw[h];exact fun z=>nomatch z) with q | ⟨ts,q⟩
 ·exact q
 ·rw[h] at q;cases q;exact absurd rfl (hn ts)
theorem Ext.refl{F H:Hp}(h:Same F H):Ext F H F H:=⟨Same.refl _,Same.refl _,h,fun _ _=> .inl rfl⟩
theorem Ext.trans{F H F' H' F'' H'':Hp}(a:Ext F H F' H')(b:Ext F' H' F'' H''):Ext F H F'' H'':=
 ⟨a.hh.trans b.hh,a.ff.trans b.ff,b.fh,fun c hc=>by
  have:H' c≠none:=by
   cases q:H c with
   |none=>exact absurd q hc
   |some o=>rw[a.hh c o q];exact fun z=>nomatch z
  rcases a.new c hc with p | p
  ·rcases b.new c this with q | ⟨ts,q⟩
   ·exact .inl (q.trans p)
   ·cases z:H c with
    |none=>exact absurd z hc
    |some o=>
     rw[a.hh c o z] at q
     exact .inr ⟨ts,q⟩
  ·exact .inr p⟩
theorem Ext.lay{F H:Hp}{a:Addr}{o:HO}(h:Same F H)(n:H a=none):Ext F H (upd F a o) (upd H a o):=by
 have nf:F a=none:=Same.free h n
 refine⟨fun b u e=>?_,fun b u e=>?_,fun b u e=>?_,fun b hb=>?_⟩
 ·rw[au (bc e n)];exact e
 ·rw[au (bc e nf)];exact e
 ·by_cases q:b=a
  ·subst q;rw[aF] at e⊢;exact e
  ·rw[au q] at e⊢;exact h b u e
 ·exact .inl (au fun z=>hb (by rw[z];exact n))
theorem Ext.free{F H:Hp}{a:Addr}{o:HO}(h:Same F H)(n:H a=none):Ext F H F (upd H a o):=
 ⟨fun b u e=>by rw[au (bc e n)];exact e,Same.refl _,fun b u e=>by rw[au (bc (h b u e) n)];exact h b u e,fun _ _=> .inl rfl⟩
theorem Ext.tup{F H:Hp}{a:Addr}{ts:List V}(h:Same F H)(e:H a=some (.tup ts)):Ext F H (upd F a (.tup ts)) H:=by
 refine⟨Same.refl _,fun b u q=>?_,fun b u q=>?_,fun b hb=>?_⟩
 ·by_cases z:b=a
  ·subst z;rw[aF,←e];exact h b u q
  ·rw[au z];exact q
 ·by_cases z:b=a
  ·subst z;rw[aF] at q;rw[e];exact q
  ·rw[au z] at q;exact h b u q
 ·by_cases z:b=a
  ·subst z;exact .inr ⟨ts,e⟩
  ·exact .inl (au z)
def WP(K:W.Frag)(Xw:Nat→Hp→Prop)(F H:Hp)(m:M D)(Q:VK):Prop:=
 match m with
 |none=>False
 |some (.ok d)=>∀v H' F',Ext F H F' H'→Den K F' d v→Q v H'
 |some (.ex n)=>∀F' H',Ext F H F' H'→Xw n H'
def WPL(K:W.Frag)(Xw:Nat→Hp→Prop)(F H:Hp)(m:M (List D))(Q:List V→Hp→Prop):Prop:=
 match m with
 |none=>False
 |some (.ok ds)=>∀vs H' F',Ext F H F' H'→DenL K F' ds vs→Q vs H'
 |some (.ex n)=>∀F' H',Ext F H F' H'→Xw n H'
def WPB(Xw:Nat→Hp→Prop)(F H:Hp)(m:M Bool)(Q:Bool→Hp→Prop):Prop:=
 match m with
 |none=>False
 |some (.ok b)=>∀H' F',Ext F H F' H'→Q b H'
 |some (.ex n)=>∀F' H',Ext F H F' H'→Xw n H'
section
variable{K:W.Frag}{Xw:Nat→Hp→Prop}{F F' H H':Hp}{Q:VK}
theorem WP.ext{m:M D}(e:Ext F H F' H')(h:WP K Xw F H m Q):WP K Xw F' H' m Q:=by
 match m,h with
 |none,h=>exact h
 |some (.ok d),h=>exact fun v H2 F2 e2 q=>h v H2 F2 (e.trans e2) q
 |some (.ex n),h=>exact fun F2 H2 e2=>h F2 H2 (e.trans e2)
theorem WPL.ext{m:M (List D)}{Q:List V→Hp→Prop}(e:Ext F H F' H')(h:WPL K Xw F H m Q):WPL K Xw F' H' m Q:=by
 match m,h with
 |none,h=>exact h
 |some (.ok d),h=>exact fun v H2 F2 e2 q=>h v H2 F2 (e.trans e2) q
 |some (.ex n),h=>exact fun F2 H2 e2=>h F2 H2 (e.trans e2)
theorem WPB.ext{m:M Bool}{Q:Bool→Hp→Prop}(e:Ext F H F' H')(h:WPB Xw F H m Q):WPB Xw F' H' m Q:=by
 match m,h with
 |none,h=>exact h
 |some (.ok d),h=>exact fun H2 F2 e2=>h H2 F2 (e.trans e2)
 |some (.ex n),h=>exact fun F2 H2 e2=>h F2 H2 (e.trans e2)
theorem WP.fin{d:D}{v:V}(h:WP K Xw F H (M.ret d) Q)(e:Ext F H F' H')(q:Den K F' d v):Q v H':=h v H' F' e q
theorem WP.now{d:D}{v:V}(h:WP K Xw F H (M.ret d) Q)(s:Same F H)(q:Den K F d v):Q v H:=h v H F (Ext.refl s) q
theorem WP.bind{m:M D}{k:D→M D}(h:WP K Xw F H (m>>=k) Q):WP K Xw F H m fun v H1=>∃F1 d,Ext F H F1 H1∧Den K F1 d v∧WP K Xw F1 H1 (k d) Q:=by
 match m,h with
 |none,h=>exact h
 |some (.ok d),h=>exact fun v H2 F2 e2 q=>⟨F2,d,e2,q,WP.ext e2 (show WP K Xw F H (k d) Q from h)⟩
 |some (.ex n),h=>exact h
theorem WP.bindL{m:M (List D)}{k:List D→M D}(h:WP K Xw F H (m>>=k) Q):WPL K Xw F H m fun vs H1=>∃F1 ds,Ext F H F1 H1∧DenL K F1 ds vs∧WP K Xw F1 H1 (k ds) Q:=by
 match m,h with
 |none,h=>exact h
 |some (.ok d),h=>exact fun v H2 F2 e2 q=>⟨F2,d,e2,q,WP.ext e2 (show WP K Xw F H (k d) Q from h)⟩
 |some (.ex n),h=>exact h
theorem WPB.bind{m:M D}{k:D→M Bool}{Q:Bool→Hp→Prop}(h:WPB Xw F H (m>>=k) Q):WP K Xw F H m fun v H1=>∃F1 d,Ext F H F1 H1∧Den K F1 d v∧WPB Xw F1 H1 (k d) Q:=by
 match m,h with
 |none,h=>exact h
 |some (.ok d),h=>exact fun v H2 F2 e2 q=>⟨F2,d,e2,q,WPB.ext e2 (show WPB Xw F H (k d) Q from h)⟩
 |some (.ex n),h=>exact h
theorem WPB.bindB{m:M Bool}{k:Bool→M Bool}{Q:Bool→Hp→Prop}(h:WPB Xw F H (m>>=k) Q):WPB Xw F H m fun b H1=>∃F1,Ext F H F1 H1∧WPB Xw F1 H1 (k b) Q:=by
 match m,h with
 |none,h=>exact h
 |some (.ok d),h=>exact fun H2 F2 e2=>⟨F2,e2,WPB.ext e2 (show WPB Xw F H (k d) Q from h)⟩
 |some (.ex n),h=>exact h
theorem WPL.bind{m:M D}{k:D→M (List D)}{Q:List V→Hp→Prop}(h:WPL K Xw F H (m>>=k) Q):WP K Xw F H m fun v H1=>∃F1 d,Ext F H F1 H1∧Den K F1 d v∧WPL K Xw F1 H1 (k d) Q:=by
 match m,h with
 |none,h=>exact h
 |some (.ok d),h=>exact fun v H2 F2 e2 q=>⟨F2,d,e2,q,WPL.ext e2 (show WPL K Xw F H (k d) Q from h)⟩
 |some (.ex n),h=>exact h
theorem WPL.bindL{m:M (List D)}{k:List D→M (List D)}{Q:List V→Hp→Prop}(h:WPL K Xw F H (m>>=k) Q):WPL K Xw F H m fun vs H1=>∃F1 ds,Ext F H F1 H1∧DenL K F1 ds vs∧WPL K Xw F1 H1 (k ds) Q:=by
 match m,h with
 |none,h=>exact h
 |some (.ok d),h=>exact fun v H2 F2 e2 q=>⟨F2,d,e2,q,WPL.ext e2 (show WPL K Xw F H (k d) Q from h)⟩
 |some (.ex n),h=>exact h
theorem WP.mono{m:M D}{Q':VK}(h:WP K Xw F H m Q)(k:∀v H',Q v H'→Q' v H'):WP K Xw F H m Q':=by
 match m,h with
 |none,h=>exact h
 |some (.ok d),h=>exact fun v H2 F2 e2 q=>k _ _ (h v H2 F2 e2 q)
 |some (.ex n),h=>exact h
theorem WPL.mono{m:M (List D)}{Q Q':List V→Hp→Prop}(h:WPL K Xw F H m Q)(k:∀v H',Q v H'→Q' v H'):WPL K Xw F H m Q':=by
 match m,h with
 |none,h=>exact h
 |some (.ok d),h=>exact fun v H2 F2 e2 q=>k _ _ (h v H2 F2 e2 q)
 |some (.ex n),h=>exact h
theorem WPB.mono{m:M Bool}{Q Q':Bool→Hp→Prop}(h:WPB Xw F H m Q)(k:∀v H',Q v H'→Q' v H'):WPB Xw F H m Q':=by
 match m,h with
 |none,h=>exact h
 |some (.ok d),h=>exact fun H2 F2 e2=>k _ _ (h H2 F2 e2)
 |some (.ex n),h=>exact h
end
inductive C where
 |lst (l:List D) | dct (ks:List (List Key)) (l:List D) | dci (ks:List Key) (l:List D)
def C.d:C→D
 | .lst ds=> .lst ds
 | .dct ks ds=> .dct ks ds
 | .dci ks ds=> .dci ks ds
inductive Sl where
 |fz (d:D) | ow (c:C)
abbrev a9:=List (Option Sl)
def DenC(K:W.Frag)(F:Hp):C→HO→Prop
 | .lst ds,o=>∃vs,o= .lst vs∧DenL K F ds vs∧ds.length≤lim
 | .dct ks ds,o=>∃vs,o= .dT (ks.zip vs)∧DenL K F ds vs∧ks.length=ds.length∧ds.length≤lim
 | .dci ks ds,o=>∃vs,o= .dK (ks.zip vs)∧DenL K F ds vs∧ks.length=ds.length∧ds.length≤lim
theorem DenC.mono{K:W.Frag}{F F':Hp}(e:Same F F'):∀{c:C}{o:HO},DenC K F c o→DenC K F' c o
 | .lst _,_,⟨vs,h1,h2,h3⟩=>⟨vs,h1,DenL.mono e h2,h3⟩
 | .dct _ _,_,⟨vs,h1,h2,h3⟩=>⟨vs,h1,DenL.mono e h2,h3⟩
 | .dci _ _,_,⟨vs,h1,h2,h3⟩=>⟨vs,h1,DenL.mono e h2,h3⟩
theorem DenC.notup{K:W.Frag}{F:Hp}:∀{c:C}{o:HO},DenC K F c o→∀ts,o≠ .tup ts
 | .lst _,_,⟨_,h1,_⟩,ts,z=>by rw[h1] at z;cases z
 | .dct _ _,_,⟨_,h1,_⟩,ts,z=>by rw[h1] at z;cases z
 | .dci _ _,_,⟨_,h1,_⟩,ts,z=>by rw[h1] at z;cases z
def gZ(ob:Obj):HO→HO
 | .dT ar=> .frz ob (.dT ar)
 | .dK ar=> .frz ob (.dK ar)
 |o=>o
theorem DenC.den{K:W.Frag}{F F':Hp}{a:Addr}{ob:Obj}:∀{c:C}{o:HO},DenC K F c o→Same F F'→F' a=some (gZ ob o)→Den K F' c.d (.ref a)
 | .lst _,_,⟨vs,h1,h2,h3⟩,e,q=>by subst h1;exact⟨a,vs,rfl,q,DenL.mono e h2,h3⟩
 | .dct _ _,_,⟨vs,h1,h2,h3⟩,e,q=>by subst h1;exact⟨a,ob,vs,rfl,q,DenL.mono e h2,h3⟩
 | .dci _ _,_,⟨vs,h1,h2,h3⟩,e,q=>by subst h1;exact⟨a,ob,vs,rfl,q,DenL.mono e h2,h3⟩
def DenO(K:W.Frag)(F H:Hp):Sl→V→Prop
 | .fz d,v=>Den K F d v
 | .ow c,v=>∃a o,v= .ref a∧H a=some o∧F a=none∧DenC K F c o
structure StE (K:W.Frag) (F H:Hp) (σ:St) (ρ:a9):Prop where
 fh:Same F H
 den:∀(i:Nat) (sl:Sl),ρ[i]? =some (some sl)→∃v,σ[i]? =some (some v)∧DenO K F H sl v
theorem DenO.ext{K:W.Frag}{F H F' H':Hp}(e:Ext F H F' H'):∀{sl:Sl}{v:V},DenO K F H sl v→DenO K F' H' sl v
 | .fz _,_,h=>Den.mono e.ff h
 | .ow _,_,⟨a,o,h1,h2,h3,h4⟩=>⟨a,o,h1,e.hh _ _ h2,by rw[e.old h2 h4.notup];exact h3,DenC.mono e.ff h4⟩
theorem StE.ext{K:W.Frag}{F H F' H':Hp}{σ:St}{ρ:a9}(s:StE K F H σ ρ)(e:Ext F H F' H'):StE K F' H' σ ρ:=
 ⟨e.fh,fun i sl q=>let ⟨v,h1,h2⟩:=s.den i sl q;⟨v,h1,h2.ext e⟩⟩
abbrev DE:=a9→M D
abbrev DT:=a9→M Bool
abbrev DA:=a9→M (List D)
def tD(K:W.Frag)(Xw:Nat→Hp→Prop)(δ:DE):TE:=fun σ H Q=>∃F ρ,StE K F H σ ρ∧WP K Xw F H (δ ρ) Q
def Ot(K:W.Frag)(Xw:Nat→Hp→Prop)(δ:DT):TT:=fun σ H Q=>∃F ρ,StE K F H σ ρ∧WPB Xw F H (δ ρ) Q
def PM(K:W.Frag)(Xw:Nat→Hp→Prop)(δ:DA):TA:=fun σ H Q=>∃F ρ,StE K F H σ ρ∧WPL K Xw F H (δ ρ) Q
def PD(X:Cx)(Xw:Nat→Hp→Prop)(e:Expr)(δ:DE):Prop:=PE X e (tD X.K Xw δ)
def rl(X:Cx)(Xw:Nat→Hp→Prop)(e:Expr)(δ:DT):Prop:=PT X e (Ot X.K Xw δ)
def kP(X:Cx)(Xw:Nat→Hp→Prop)(es:List Expr)(δ:DA):Prop:=PA X es (PM X.K Xw δ)
theorem PE.weak{X:Cx}{e:Expr}{t t':TE}(h:PE X e t)(k:∀σ H Q,t' σ H Q→t σ H Q):PE X e t':=fun pins s σ H Q I w=>h pins s σ H Q I (k σ H Q w)
theorem PT.weak{X:Cx}{e:Expr}{t t':TT}(h:PT X e t)(k:∀σ H Q,t' σ H Q→t σ H Q):PT X e t':=fun pins s σ H Q I w=>h pins s σ H Q I (k σ H Q w)
theorem PA.weak{X:Cx}{e:List Expr}{t t':TA}(h:PA X e t)(k:∀σ H Q,t' σ H Q→t σ H Q):PA X e t':=fun pos pins s σ H Q I w=>h pos pins s σ H Q I (k σ H Q w)
def dV(i:Nat):DE:=fun ρ=>match ρ[i]? with
 |some (some (.fz d))=>M.ret d
 |_=>M.stuck
def dC(d:D):DE:=fun _=>M.ret d
def d1(g:D→M D)(a:DE):DE:=fun ρ=>a ρ>>=g
def d2(g:D→D→M D)(a b:DE):DE:=fun ρ=>a ρ>>=fun x=>b ρ>>=fun y=>g x y
def aN:DA:=fun _=>M.ret []
def aC(a:DE)(r:DA):DA:=fun ρ=>a ρ>>=fun x=>r ρ>>=fun xs=>M.ret (x::xs)
def dA(g:List D→M D)(a:DA):DE:=fun ρ=>a ρ>>=g
def Bd:D→M Bool
 | .bl b=>M.ret b
 |_=>M.stuck
def dn(a:DE):DT:=fun ρ=>a ρ>>=Bd
def kX(a b:DT):DT:=fun ρ=>a ρ>>=fun x=>if x then M.ret true else b ρ
def cW(a:DT):DT:=fun ρ=>a ρ>>=fun x=>M.ret (!x)
def eP(a b:DE):DE:=fun ρ=>a ρ>>=fun x=>Bd x>>=fun c=>if c then b ρ else M.ret (.bl false)
def GD(a:DE):DE:=fun ρ=>a ρ>>=fun x=>Bd x>>=fun c=>M.ret (.bl (!c))
section
variable{X:Cx}{Xw:Nat→Hp→Prop}{a b:Expr}{δa δb:DE}{pos:Pos}
theorem ab{i:Nat}{x:Str}(h:PE X (.Name x pos) (o_ i)):PD X Xw (.Name x pos) (dV i):=PE.weak h fun σ H Q ⟨F,ρ,s,w⟩=>by
 unfold dV at w
 split at w
 ·rename_i d e
  obtain⟨v,h1,h2⟩:=s.den i _ e
  exact⟨v,h1,WP.now w s.fh h2⟩
 ·exact w.elim
theorem fX{e:Expr}{d:D}{v:V}(h:PE X e (tC v))(hd:∀F,Den X.K F d v):PD X Xw e (dC d):=PE.weak h fun σ H Q ⟨F,ρ,s,w⟩=>WP.now w s.fh (hd F)
theorem av{i j}:PD X Xw (.Constant (.int i) j pos) (dC (.int i)):=fX Ja fun _=>rfl
theorem fW{i j}:PD X Xw (.Constant (.bool i) j pos) (dC (.bl i)):=fX Lx fun _=>rfl
theorem IY{j}:PD X Xw (.Constant .none j pos) (dC .non):=fX Jb fun _=>rfl
theorem gz{x j}(h:x.length≤lim:=by decide):PD X Xw (.Constant (.str x) j pos) (dC (.str x)):=fX Jf fun _=>⟨rfl,h⟩
def vZ(K:W.Frag)(r:R2)(g:D→D→M D):Prop:=∀(Xw:Nat→Hp→Prop) (F H:Hp) (x y:V) (dx dy:D) (Q:VK),Same F H→Den K F dx x→Den K F dy y→WP K Xw F H (g dx dy) Q→r x y H Q
theorem tJ{r:R2}{g:D→D→M D}(hg:vZ X.K r g):∀σ H Q,tD X.K Xw (d2 g δa δb) σ H Q→LZ r (tD X.K Xw δa) (tD X.K Xw δb) σ H Q:=fun σ H Q ⟨F,ρ,s,w⟩=>by
 refine⟨F,ρ,s,WP.mono (WP.bind w) fun v H1 ⟨F1,d,e1,q1,w1⟩=>?_⟩
 refine⟨F1,ρ,s.ext e1,WP.mono (WP.bind w1) fun u H2 ⟨F2,d',e2,q2,w2⟩=>?_⟩
 exact hg Xw F2 H2 v u d d' Q e2.fh (Den.mono e2.ff q1) q2 w2
theorem oO{op:Operator}{r:R2}{g:D→D→M D}(ho:OpR X (binaryOp op) r)(hg:vZ X.K r g)(ha:PD X Xw a δa)(hb:PD X Xw b δb):PD X Xw (.BinOp a op b pos) (d2 g δa δb):=
 PE.weak (Lz ho ha hb) (tJ hg)
theorem xq{op:CmpOp}{r:R2}{g:D→D→M D}(ho:OpR X (compareOp op) r)(hg:vZ X.K r g)(ha:PD X Xw a δa)(hb:PD X Xw b δb)(hm:behindInMarks op b=false:=by first | exact CU _ | rfl):PD X Xw (.Compare a [op] [b] pos) (d2 g δa δb):=
 PE.weak (FR ho ha hb hm) (tJ hg)
theorem i6{op:CmpOp}{r:R2}{g:D→D→M D}(ho:OpR X (compareOp op) r)(hg:vZ X.K r g)(ha:PD X Xw a δa)(hb:PD X Xw b δb)(hm:behindInMarks op b=false:=by first | exact CU _ | rfl):rl X Xw (.Compare a [op] [b] pos) (dn (d2 g δa δb)):=
 PT.weak (F7 ho ha hb hm) fun σ H Q ⟨F,ρ,s,w⟩=>by
  refine tJ hg σ H _ ⟨F,ρ,s,WP.mono (WPB.bind w) fun v H1 ⟨F1,d,e1,q1,w1⟩=>?_⟩
  cases d with
  |bl k=>exact⟨k,q1,w1 _ _ (Ext.refl e1.fh)⟩
  |_=>exact w1.elim
theorem yW{r:R2}{g:D→D→M D}(hr:J4 X r)(hg:vZ X.K r g)(ha:PD X Xw a δa)(hb:PD X Xw b δb)(hs:iP b:=by intro _ _;rfl):PD X Xw (.Subscript a b pos) (d2 g δa δb):=
 PE.weak (Ly hr ha hb hs) (tJ hg)
theorem ae:kP X Xw [] aN:=PA.weak sM fun σ H Q ⟨F,ρ,s,w⟩=>w [] H F (Ext.refl s.fh) rfl
theorem aa{es:List Expr}{δs:DA}(ha:PD X Xw a δa)(hr:kP X Xw es δs)(hs:starEach (a::es) X.env=(false,eval a X.env)::starEach es X.env:=by rfl):kP X Xw (a::es) (aC δa δs):=
 PA.weak (sL ha hr hs) fun σ H Q ⟨F,ρ,s,w⟩=>by
  refine⟨F,ρ,s,WP.mono (WPL.bind w) fun v H1 ⟨F1,d,e1,q1,w1⟩=>?_⟩
  refine⟨F1,ρ,s.ext e1,WPL.mono (WPL.bindL w1) fun vs H2 ⟨F2,ds,e2,q2,w2⟩=>?_⟩
  exact w2 _ _ _ (Ext.refl e2.fh) (.cons (Den.mono e2.ff q1) q2)
def dm(ds:List D):M D:=if ds.length≤lim then M.ret (.tup ds) else M.stuck
def fq(ds:List D):M D:=if ds.length≤lim then M.ret (.lst ds) else M.stuck
theorem wX{ds:List D}{f:List D→D}{Q:VK}{F H:Hp}(w:WP X.K Xw F H (if ds.length≤lim then M.ret (f ds) else M.stuck) Q):ds.length≤lim∧WP X.K Xw F H (M.ret (f ds)) Q:=by
 split at w
 ·rename_i h;exact⟨h,w⟩
 ·exact w.elim
theorem gA{x1}{es:List Expr}{δs:DA}(h:kP X Xw es δs):PD X Xw (.Tuple es x1 pos) (dA dm δs):=PE.weak (Jg h) fun σ H Q ⟨F,ρ,s,w⟩=>by
 refine⟨F,ρ,s,WPL.mono (WP.bindL w) fun vs H1 ⟨F1,ds,e1,q1,w1⟩=>?_⟩
 obtain⟨hl,w1⟩:=wX (X:=X) w1
 have hv:=q1.len
 refine⟨by have:=c8;omega,fun p hp=>WP.fin w1 (Ext.lay e1.fh hp) ⟨p,vs,rfl,aF,DenL.mono (Ext.lay e1.fh hp).ff q1,hl⟩⟩
theorem oM{es:List Expr}{δs:DA}(h:kP X Xw es δs):PD X Xw (.List es pos) (dA fq δs):=PE.weak (Dr h) fun σ H Q ⟨F,ρ,s,w⟩=>by
 refine⟨F,ρ,s,WPL.mono (WP.bindL w) fun vs H1 ⟨F1,ds,e1,q1,w1⟩=>?_⟩
 obtain⟨hl,w1⟩:=wX (X:=X) w1
 have hv:=q1.len
 refine⟨by have:=c8;omega,fun p hp=>WP.fin w1 (Ext.lay e1.fh hp) ⟨p,vs,rfl,aF,DenL.mono (Ext.lay e1.fh hp).ff q1,hl⟩⟩
end
def ItD(K:W.Frag)(F:Hp)(J:It)(ds:List D):Prop:=∀(F' H':Hp) (i:Nat),Same F F'→Same F' H'→
 (∀d,ds[i]? =some d→J.go i H'∧∀x H'',J.yld i H' x H''→∃F'',Ext F' H' F'' H''∧Den K F'' d x)∧(ds.length≤i→J.stop i H')
theorem ItD.mono{K:W.Frag}{F F1:Hp}{J:It}{ds:List D}(h:ItD K F J ds)(e:Same F F1):ItD K F1 J ds:=fun F' H' i s1 s2=>h F' H' i (e.trans s1) s2
def WPI(K:W.Frag)(Xw:Nat→Hp→Prop)(F H:Hp)(m:M (List D))(R:It→Hp→Prop):Prop:=
 match m with
 |none=>False
 |some (.ok ds)=>∀J H' F',Ext F H F' H'→ItD K F' J ds→R J H'
 |some (.ex n)=>∀F' H',Ext F H F' H'→Xw n H'
def RA(K:W.Frag)(Xw:Nat→Hp→Prop)(δ:DA):TI:=fun σ H R=>∃F ρ,StE K F H σ ρ∧WPI K Xw F H (δ ρ) R
def v7(X:Cx)(Xw:Nat→Hp→Prop)(tg iter:Expr)(δ:DA):Prop:=PI X tg iter (RA X.K Xw δ)
theorem PI.weak{X:Cx}{tg e:Expr}{t t':TI}(h:PI X tg e t)(k:∀σ H Q,t' σ H Q→t σ H Q):PI X tg e t':=fun pins s σ H Q I w=>h pins s σ H Q I (k σ H Q w)
theorem WPI.bind{K:W.Frag}{Xw:Nat→Hp→Prop}{F H:Hp}{m:M D}{k:D→M (List D)}{R:It→Hp→Prop}(h:WPI K Xw F H (m>>=k) R):
 WP K Xw F H m fun v H1=>∃F1 d,Ext F H F1 H1∧Den K F1 d v∧WPI K Xw F1 H1 (k d) R:=by
 match m,h with
 |none,h=>exact h
 |some (.ok d),h=>
  refine fun v H2 F2 e2 q=>⟨F2,d,e2,q,?_⟩
  have h:WPI K Xw F H (k d) R:=h
  show WPI K Xw F2 H2 (k d) R
  match k d,h with
  |none,h=>exact h
  |some (.ok ds),h=>exact fun J H3 F3 e3 q3=>h J H3 F3 (e2.trans e3) q3
  |some (.ex n),h=>exact fun F3 H3 e3=>h F3 H3 (e2.trans e3)
 |some (.ex n),h=>exact h
theorem WPI.bindL{K:W.Frag}{Xw:Nat→Hp→Prop}{F H:Hp}{m:M (List D)}{k:List D→M (List D)}{R:It→Hp→Prop}(h:WPI K Xw F H (m>>=k) R):
 WPL K Xw F H m fun v H1=>∃F1 d,Ext F H F1 H1∧DenL K F1 d v∧WPI K Xw F1 H1 (k d) R:=by
 match m,h with
 |none,h=>exact h
 |some (.ok d),h=>
  refine fun v H2 F2 e2 q=>⟨F2,d,e2,q,?_⟩
  have h:WPI K Xw F H (k d) R:=h
  show WPI K Xw F2 H2 (k d) R
  match k d,h with
  |none,h=>exact h
  |some (.ok ds),h=>exact fun J H3 F3 e3 q3=>h J H3 F3 (e2.trans e3) q3
  |some (.ex n),h=>exact fun F3 H3 e3=>h F3 H3 (e2.trans e3)
 |some (.ex n),h=>exact h
def lstM:D→M (List D)
 | .lst ds=>M.ret ds
 |_=>M.stuck
def OD:D→M (List D)
 | .tup ds=>M.ret ds
 |_=>M.stuck
def cE(a:DE):DA:=fun ρ=>a ρ>>=lstM
def gk(a:DE):DA:=fun ρ=>a ρ>>=OD
theorem Cu{K:W.Frag}{F:Hp}{a:Addr}{vs:List V}{ds:List D}(h:SqL K F a vs)(hd:DenL K F ds vs):ItD K F (MF K a) ds:=fun F' H' i s1 s2=>by
 have hs:=Same.seq s2 (Same.seq s1 h)
 refine⟨fun d e=>?_,fun hl=>⟨vs,hs,by rw[←hd.len];exact hl⟩⟩
 obtain⟨v,e1,q⟩:=hd.get e
 refine⟨⟨vs,v,hs,e1⟩,fun x H'' y=>?_⟩
 obtain⟨e2,y⟩:=y
 subst e2
 have:=y vs hs
 rw[e1] at this
 cases this
 exact⟨F',Ext.refl s2,Den.mono s1 q⟩
theorem Ff{K:W.Frag}{F:Hp}{a:Addr}{vs:List V}{ds:List D}(h:SqT K F a vs)(hd:DenL K F ds vs):ItD K F (MG K a) ds:=fun F' H' i s1 s2=>by
 have hs:=Same.tup s2 (Same.tup s1 h)
 refine⟨fun d e=>?_,fun hl=>⟨vs,hs,by rw[←hd.len];exact hl⟩⟩
 obtain⟨v,e1,q⟩:=hd.get e
 refine⟨⟨vs,v,hs,e1⟩,fun x H'' y=>?_⟩
 obtain⟨e2,y⟩:=y
 subst e2
 have:=y vs hs
 rw[e1] at this
 cases this
 exact⟨F',Ext.refl s2,Den.mono s1 q⟩
def f9(lo:Int)(n:Nat):List D:=(List.range n).map fun(i:Nat)=>D.int (lo+(i:Int))
theorem qo{K:W.Frag}{F:Hp}(lo:Int)(n:Nat):ItD K F (J3 lo n) (f9 lo n):=fun F' H' i s1 s2=>by
 refine⟨fun d e=>?_,fun hl=>show n≤i by simpa[f9] using hl⟩
 unfold f9 at e
 rw[List.getElem?_map] at e
 have hi:i<n:=by
  by_cases hi:i<n
  ·exact hi
  ·rw[List.getElem?_eq_none (by simpa using hi)] at e;cases e
 rw[List.getElem?_range hi] at e
 cases e
 refine⟨hi,fun x H'' y=>?_⟩
 obtain⟨e2,y⟩:=y
 subst e2 y
 exact⟨F',Ext.refl s2,rfl⟩
section
variable{X:Cx}{Xw:Nat→Hp→Prop}{tg l:Expr}{δ:DE}{pos:Pos}
theorem bG(h:PD X Xw l δ):v7 X Xw tg l (cE δ):=PI.weak (FV h) fun σ H R ⟨F,ρ,s,w⟩=>by
 refine⟨F,ρ,s,WP.mono (WPI.bind w) fun v H1 ⟨F1,d,e1,q1,w1⟩=>?_⟩
 cases d with
 |lst ds=>
  obtain⟨a,vs,h1,h2,h3,h4⟩:=q1
  exact⟨a,h1,⟨vs,Same.seq e1.fh (SqL.of h2)⟩,w1 _ _ _ (Ext.refl e1.fh) (Cu (SqL.of h2) h3)⟩
 |_=>exact w1.elim
theorem i5(h:PD X Xw l δ):v7 X Xw tg l (gk δ):=PI.weak (Jk h) fun σ H R ⟨F,ρ,s,w⟩=>by
 refine⟨F,ρ,s,WP.mono (WPI.bind w) fun v H1 ⟨F1,d,e1,q1,w1⟩=>?_⟩
 cases d with
 |tup ds=>
  obtain⟨a,vs,h1,h2,h3,h4⟩:=q1
  exact⟨a,h1,⟨vs,Same.tup e1.fh (SqT.of h2)⟩,w1 _ _ _ (Ext.refl e1.fh) (Ff (SqT.of h2) h3)⟩
 |_=>exact w1.elim
def ix:List D→M (List D)
 |[.int j]=>if -4096≤j∧j≤4096 then M.ret (f9 0 j.toNat) else M.stuck
 |_=>M.stuck
def q9:List D→M (List D)
 |[.int i, .int j]=>if (-4096≤i∧i≤4096)∧(-4096≤j∧j≤4096) then M.ret (f9 i (j - i).toNat) else M.stuck
 |_=>M.stuck
theorem DenL.one{K:W.Frag}{F:Hp}{d:D}{vs:List V}(h:DenL K F [d] vs):∃v,vs=[v]∧Den K F d v:=by
 obtain⟨v,r,h1,h2,h3⟩:=h
 cases (show r=[] from h3)
 exact⟨v,h1,h2⟩
theorem DenL.two{K:W.Frag}{F:Hp}{d d':D}{vs:List V}(h:DenL K F [d,d'] vs):∃v v',vs=[v,v']∧Den K F d v∧Den K F d' v':=by
 obtain⟨v,r,h1,h2,h3⟩:=h
 obtain⟨v',h4,h5⟩:=h3.one
 subst h4
 exact⟨v,v',h1,h2,h5⟩
theorem d5{a:Expr}{δs:DA}{p:Pos}(hg:Gl X "range")(hm:X.mg "range"=none)(ha:kP X Xw [a] δs)(hs:starEach [a] X.env=[(false,eval a X.env)]:=by rfl):v7 X Xw tg (.Call (.Name "range" p) [a] [] pos) (fun ρ=>δs ρ>>=ix):=
 PI.weak (AG hg hm ha hs) fun σ H R ⟨F,ρ,s,w⟩=>by
  refine⟨F,ρ,s,WPL.mono (WPI.bindL w) fun vs H1 ⟨F1,ds,e1,q1,w1⟩=>?_⟩
  unfold ix at w1
  split at w1
  ·rename_i j
   obtain⟨v,h1,h2⟩:=q1.one
   cases (show v=_ from h2)
   split at w1
   ·exact⟨j,h1,by omega,by omega,w1 _ _ _ (Ext.refl e1.fh) (qo 0 _)⟩
   ·exact w1.elim
  ·exact w1.elim
theorem oQ{a b:Expr}{δs:DA}{p:Pos}(hg:Gl X "range")(hm:X.mg "range"=none)(ha:kP X Xw [a,b] δs)(hs:starEach [a,b] X.env=[(false,eval a X.env),(false,eval b X.env)]:=by rfl)
 (EB:starEach [b] X.env=[(false,eval b X.env)]:=by rfl):v7 X Xw tg (.Call (.Name "range" p) [a,b] [] pos) (fun ρ=>δs ρ>>=q9):=
 PI.weak (AH hg hm ha hs EB) fun σ H R ⟨F,ρ,s,w⟩=>by
  refine⟨F,ρ,s,WPL.mono (WPI.bindL w) fun vs H1 ⟨F1,ds,e1,q1,w1⟩=>?_⟩
  unfold q9 at w1
  split at w1
  ·rename_i i j
   obtain⟨v,v',h1,h2,h3⟩:=q1.two
   cases (show v=_ from h2)
   cases (show v'=_ from h3)
   split at w1
   ·exact⟨i,j,h1,⟨by omega,by omega,by omega,by omega⟩,w1 _ _ _ (Ext.refl e1.fh) (qo i _)⟩
   ·exact w1.elim
  ·exact w1.elim
end
def bM(tg N:List Str):List Str:=N.map fun y=>if tg.contains y then y++(" ":Str) else y
def jk(X:Cx)(scope:Scope)(tn:List Str)(pins:List (Addr×Obj))(cl:List (Str×Addr))(C:Addr)(fp:List Addr)(s₂:Shared)(H:Hp):Cx:=
 {X with N:=tn++bM tn X.N,s₀:=s₂,H₀:=H,env:=compEnvC scope cl C X.env,outer:=X.stack,ex:=fp,fn:=fun _=>false,pn:=X.pn++pins,xe:=fun _ _=>False}
structure CompSc (X:Cx) (scope:Scope) (tn:List Str):Prop where
 kind:scope.kind= .function
 nocell:∀y∈scope.names,y.2≠ .cell
 names:∀y∈scope.names,y.2= .local→scope.names.lookup y.1=some .local
 frees:∀y∈scope.names,y.2= .free→X.env.kindOf y.1=some .cell∨X.env.kindOf y.1=some .free
 vis:∀p∈(bM tn X.N).zip X.N,scope.names.lookup p.1=none∨(p.1=p.2∧scope.names.lookup p.1=some .free)
theorem jz{env:Env}:∀(names:List (Str×NameKind)) (acc:List (Str×Addr)),(∀y∈names,y.2= .free→∃c,env.cells.lookup y.1=some c)→
 (∀x c,acc.lookup x=some c→env.cells.lookup x=some c)→
 ∃cl,(forIn names acc (fun (x:Str×NameKind) (r:List (Str×Addr))=>do
   let __x:=x
   if (__x.2==NameKind.free)=true then do let c←cellOf env __x.1;pure (ForInStep.yield ((__x.1,c)::r)) else pure (ForInStep.yield r)):Sem (List (Str×Addr)))=pure cl∧
  (∀x c,cl.lookup x=some c→env.cells.lookup x=some c)∧(∀x c,acc.lookup x=some c→∃c',cl.lookup x=some c')∧(∀x,names.lookup x=some .free→∃c,cl.lookup x=some c)
 |[],acc,_,h2=>⟨acc,rfl,h2,fun x c e=>⟨c,e⟩,fun x e=>by simp at e⟩
 |(n,k)::r,acc,h1,h2=>by
  by_cases hk:k= .free
  ·subst hk
   obtain⟨c,hc⟩:=h1 (n, .free) List.mem_cons_self rfl
   obtain⟨cl,e,a1,a2,a3⟩:=jz r ((n,c)::acc) (fun y hy=>h1 y (List.mem_cons_of_mem _ hy)) (fun x c' q=>by
    rw[List.lookup_cons] at q
    split at q
    ·rename_i hx
     cases q
     rw[show x=n from by simpa using hx];exact hc
    ·exact h2 x c' q)
   refine⟨cl,?_,a1,fun x c' q=>?_,fun x q=>?_⟩
   ·rw[List.forIn_cons]
    have:cellOf env n=pure c:=by unfold cellOf;rw[hc]
    simp only[beq_self_eq_true,if_true,this,pure_bind]
    exact e
   ·by_cases hx:x=n
    ·subst hx
     exact a2 x c (by simp[List.lookup_cons])
    ·exact a2 x c' (by rw[List.lookup_cons,show (x==n)=false from by simpa using hx];exact q)
   ·rw[List.lookup_cons] at q
    split at q
    ·rename_i hx
     exact a2 x c (by rw[List.lookup_cons,hx])
    ·exact a3 x q
  ·obtain⟨cl,e,a1,a2,a3⟩:=jz r acc (fun y hy=>h1 y (List.mem_cons_of_mem _ hy)) h2
   refine⟨cl,?_,a1,a2,fun x q=>?_⟩
   ·rw[List.forIn_cons]
    have:((k==NameKind.free)=true)=False:=by simpa using hk
    simp only[this,if_false,pure_bind]
    exact e
   ·rw[List.lookup_cons] at q
    split at q
    ·cases q;exact absurd rfl hk
    ·exact a3 x q
theorem nq{scope:Scope}{env:Env}(h:∀y∈scope.names,y.2= .free→∃c,env.cells.lookup y.1=some c):
 ∃cl,closureFor scope env=pure cl∧(∀x c,cl.lookup x=some c→env.cells.lookup x=some c)∧(∀x,scope.names.lookup x=some .free→∃c,cl.lookup x=some c):=by
 obtain⟨cl,e,a1,_,a3⟩:=jz (env:=env) scope.names [] h (fun x c q=>by simp at q)
 refine⟨cl,?_,a1,a3⟩
 unfold closureFor
 show (forIn scope.names [] _>>=fun r=>pure r)=_
 rw[bind_pure]
 exact e
def noex{α:Type}:M α→M α
 |some (.ok a)=>some (.ok a)
 |_=>none
def cP(f:D→M (Option D)):List D→M (List D)
 |[]=>M.ret []
 |d::ds=>f d>>=fun o=>cP f ds>>=fun r=>M.ret (match o with | some y=>y::r | none=>r)
def PO(n:Nat):D→M (List D):=fun d=>match n,d with
 |0,d=>M.ret [d]
 |n, .tup ds=>if ds.length=n then M.ret ds else M.stuck
 |_,_=>M.stuck
def eO(n:Nat)(δt:DT)(δe:DE)(ρ:a9):D→M (Option D):=fun d=>
 PO n d>>=fun ts=>δt (ts.map (fun t=>some (Sl.fz t))++ρ)>>=fun b=>if b then δe (ts.map (fun t=>some (Sl.fz t))++ρ)>>=fun y=>M.ret (some y) else M.ret none
def aJ(n:Nat)(δi:DA)(δt:DT)(δe:DE):DE:=fun ρ=>δi ρ>>=fun ds=>noex (cP (eO n δt δe ρ) ds)>>=fq
def aP:DT:=fun _=>M.ret true
theorem cQ(f:D→M (Option D))(d:D)(ds:List D):cP f (d::ds)=(f d>>=fun o=>cP f ds>>=fun r=>M.ret (match o with | some y=>y::r | none=>r)):=rfl
theorem wo{f:D→M (Option D)}{ds:List D}{i:Nat}{d:D}{ys R:List D}(hd:ds[i]? =some d)
 (h:cP f ds=(cP f (ds.drop i)>>=fun r=>M.ret (ys++r)))(hR:cP f ds=M.ret R):
 ∃o,f d=M.ret o∧cP f ds=(cP f (ds.drop (i+1))>>=fun r=>M.ret ((match o with | some y=>ys++[y] | none=>ys)++r)):=by
 have e:ds.drop i=d::ds.drop (i+1):=by
  obtain⟨hi,e⟩:=List.getElem?_eq_some_iff.mp hd
  rw[List.drop_eq_getElem_cons hi,e]
 rw[e,cQ] at h
 have h':=h.symm.trans hR
 obtain⟨r,h1,h2⟩:=gg h'
 obtain⟨o,h3,h4⟩:=gg h1
 refine⟨o,h3,?_⟩
 obtain⟨r',h5,h6⟩:=gg h4
 rw[h5,hR]
 rw[←h2,←eG h6]
 show M.ret _=M.ret _
 cases o with
 |none=>rfl
 |some y=>simp
theorem zF{prog:Program}{w:World}{A:Around}{R:Result→Shared→Prop}{s:Shared}{elt target iter:Expr}{ifs:List Expr}{scope:Scope}{pos:Pos}{it acc:Value}{env:Env}(I:Nat→Shared→Prop)
 (turn:∀n s,I n s→wpAny (model prog w) A (pyNext it) (fun r s₁=>match r with
  |none=>R (.ok .next) s₁
  |some v=>wpAny (model prog w) A (letOwnedTupleGo target it v) (fun _ PL=>wpAny (model prog w) A (assign target env v) (fun _ s₂=>
    wpAny (model prog w) A (forIn ifs true fun c r=>if r=true then do let ok←isTrue c env (eval c env);pure (ForInStep.yield ok) else pure (ForInStep.yield r)) (fun ok s₃=>
     if ok=true then wpAny (model prog w) A (eval elt env) (fun x s₄=>
      wpAny (model prog w) A (call (.builtin "list.append") [acc,x]) (fun _ s₅=>∃m,m<n∧I m s₅) (notedBy (model prog w) A env fun e s'=>R (.error e) s') s₄) (notedBy (model prog w) A env fun e s'=>R (.error e) s') s₃
     else∃m,m<n∧I m s₃) (notedBy (model prog w) A env fun e s'=>R (.error e) s') s₂) (notedBy (model prog w) A env fun e s'=>R (.error e) s') PL) (notedBy (model prog w) A env fun e s'=>R (.error e) s') s₁) (notedBy (model prog w) A env fun e s'=>R (.error e) s') s)
 (n:Nat) (h:I n s):
 codeAny (model prog w) A (.compLoop (.ListComp elt [⟨target,iter,ifs,0⟩] scope pos) 0 it acc env) R s:=by
 refine codeAny_loop rfl I (fun n s hI=>?_) n h
 show wpAny _ A ((compTurn (.ListComp elt [⟨target,iter,ifs,0⟩] scope pos) 0 it acc env).onRaise (fun x=>do noteFrame x env;theTreesLotGoes x)) _ _ s
 refine wpAny_noted ?_
 rw[compTurn_list]
 refine wpAny_bind (wpAny_standAt (wpAny_bind (wpAny_mono (turn n s hI) (fun r s₁ h₁=>?_) fun _ _ h'=>h')))
 cases r with
 |none=>exact wpAny_pure h₁
 |some v=>
  refine wpAny_bind (wpAny_mono h₁ (fun _ PL h₁=>?_) fun _ _ h'=>h')
  refine wpAny_bind (wpAny_mono h₁ (fun _ s₂ h₂=>wpAny_bind (wpAny_mono h₂ (fun ok s₃ h₃=>?_) fun _ _ h'=>h')) fun _ _ h'=>h')
  cases ok with
  |false=>exact wpAny_pure ⟨rfl,h₃⟩
  |true=>
   exact wpAny_bind (wpAny_bind (wpAny_mono h₃ (fun x s₄ h₄=>wpAny_bind (wpAny_mono h₄ (fun _ s₅ h₅=>wpAny_pure (wpAny_pure ⟨rfl,h₅⟩)) fun _ _ h'=>h')) fun _ _ h'=>h'))
def zk(X:Cx)(tg:Expr)(n:Nat)(σ:St):Prop:=∀(pins:List (Addr×Obj)) (s:Shared) (σ':St) (F H:Hp) (d:D) (ts:List D) (v:V) (u:Value),Inv X pins σ' H s→Same F H→σ'.drop (max n 1)=σ→RelV v u→Den X.K F d v→PO n d=M.ret ts→
 wpAny (model X.prog X.w) X.A (assign tg X.env u) (fun _ s'=>∃vs,Inv X pins (vs.map some++σ) H s'∧DenL X.K F ts vs) X.xe s
def kS(X:Cx)(ifs:List Expr)(δt:DT):Prop:=∀(pins:List (Addr×Obj)) (s:Shared) (σ:St) (H:Hp) (Q:Bool→Hp→Prop),Inv X pins σ H s→Ot X.K (fun _ _=>False) δt σ H Q→
 wpAny (model X.prog X.w) X.A (forIn ifs true fun c r=>if r=true then do let ok←isTrue c X.env (eval c X.env);pure (ForInStep.yield ok) else pure (ForInStep.yield r)) (TP X pins σ Q) X.xe s
theorem bH{X:Cx}:kS X [] aP:=fun pins s σ H Q I ⟨F,ρ,S,w⟩=>wpAny_tests_nil ⟨H,I,w H F (Ext.refl S.fh)⟩
theorem kJ{X:Cx}{c:Expr}{δ:DT}(h:rl X (fun _ _=>False) c δ):kS X [c] δ:=fun pins s σ H Q I w=>wpAny_tests_one (h pins s σ H Q I w)
theorem StE.cons{K:W.Frag}{F H:Hp}{σ:St}{ρ:a9}{ts:List D}{vs:List V}(s:StE K F H σ ρ)(h:DenL K F ts vs):StE K F H (vs.map some++σ) (ts.map (fun t=>some (Sl.fz t))++ρ):=by
 refine⟨s.fh,fun i sl e=>?_⟩
 have hl:=h.len
 by_cases hi:i<ts.length
 ·rw[List.getElem?_append_left (by simpa using hi),List.getElem?_map] at e
  cases q:ts[i]? with
  |none=>rw[q] at e;cases e
  |some t=>
   rw[q] at e
   cases e
   obtain⟨v,e1,e2⟩:=h.get q
   exact⟨v,by rw[List.getElem?_append_left (by simp;omega),List.getElem?_map,e1];rfl,e2⟩
 ·rw[List.getElem?_append_right (by simpa using hi)] at e
  obtain⟨v,e1,e2⟩:=s.den _ _ e
  refine⟨v,?_,e2⟩
  rw[List.getElem?_append_right (by simp;omega)]
  simpa[hl] using e1
theorem WPB.take{Xw:Nat→Hp→Prop}{F H:Hp}{b:Bool}:WPB Xw F H (M.ret b) fun b' H'=>b'=b∧∃F',Ext F H F' H':=fun H' F' e=>⟨rfl,F',e⟩
theorem WP.take{K:W.Frag}{Xw:Nat→Hp→Prop}{F H:Hp}{d:D}:WP K Xw F H (M.ret d) fun v H'=>∃F',Ext F H F' H'∧Den K F' d v:=fun v H' F' e q=>⟨F',e,q⟩
def lI(env:Env)(p:Str×NameKind):Str×NameKind:=if (p.2== .free&&env.scope.kind== .function&&env.kindOf p.1==some .cell) then(p.1, .cell) else(p.1,p.2)
theorem fJ(scope:Scope)(env:Env):(relabel scope env).names=scope.names.map (lI env):=rfl
theorem DJ(env:Env)(p:Str×NameKind):(lI env p).1=p.1:=by unfold lI;split<;>rfl
theorem gp(env:Env)(x:Str):∀ns:List (Str×NameKind),(ns.map (lI env)).lookup x=(ns.lookup x).map fun k=>(lI env (x,k)).2
 |[]=>rfl
 |(m,k)::r=>by
  rw[List.map_cons,List.lookup_cons,List.lookup_cons]
  have e:lI env (m,k)=(m,(lI env (m,k)).2):=Prod.ext (DJ env (m,k)) rfl
  rw[e]
  dsimp only
  by_cases hx:(x==m)=true
  ·have hm:x=m:=by simpa using hx
   subst hm
   rw[hx]
   rfl
  ·have hx:(x==m)=false:=by simpa using hx
   rw[hx]
   exact gp env x r
theorem sX{scope:Scope}{env:Env}{x:Str}(h:scope.names.lookup x=none):(relabel scope env).names.lookup x=none:=by
 rw[fJ,gp,h];rfl
theorem sW{scope:Scope}{env:Env}{x:Str}(hc:∀y∈scope.names,y.2≠ .cell)(h:(relabel scope env).names.lookup x=some .cell∨(relabel scope env).names.lookup x=some .free):scope.names.lookup x=some .free:=by
 rw[fJ,gp] at h
 cases q:scope.names.lookup x with
 |none=>rw[q] at h;rcases h with h | h<;>cases h
 |some k=>
  rw[q] at h
  have hk:k≠ .cell:=hc _ (PySem.mem_of_lookup q)
  have h:(lI env (x,k)).2= .cell∨(lI env (x,k)).2= .free:=by simpa using h
  by_cases hf:k= .free
  ·rw[hf]
  ·have:(lI env (x,k)).2=k:=by
    unfold lI
    rw[if_neg]
    simp[hf]
   rw[this] at h
   rcases h with h | h
   ·exact absurd h hk
   ·exact absurd h hf
theorem lJ{scope:Scope}{env:Env}{x:Str}(h:scope.names.lookup x=some .free):¬(relabel scope env).names.lookup x=some .local:=by
 rw[fJ,gp,h]
 intro z
 have z:(lI env (x, .free)).2= .local:=by simpa using z
 unfold lI at z
 split at z<;>cases z
structure BlockEnd (X:Cx) (pins:List (Addr×Obj)) (C:Addr) (H':Hp) (s1:Shared):Prop where
 ns:∃m,s1.heap.Ns C m
 free:H' C=none
 nl:C≠X.env.locals
 nw:X.s₀.heap.objs.size≤C
 nc:∀x c,X.env.cells.lookup x=some c→c≠C
 np:∀p∈X.pn++pins,p.1≠C
theorem t9{X:Cx}{Xw:Nat→Hp→Prop}{elt iter tg:Expr}{ifs:List Expr}{scope:Scope}{pos:Pos}{tn:List Str}{n:Nat}{δi:DA}{δt:DT}{δe:DE}{cl:List (Str×Addr)}{pins:List (Addr×Obj)}{s:Shared}{σ:St}{H F:Hp}{ρ:a9}{Q:VK}{RR:Value→Addr→Result→Shared→Prop}
 (sc:CompSc X scope tn)(hn:tn.length=max n 1)(hc:X.calm=true)(hi:v7 X Xw tg iter δi)
 (hg:∀pins cl C fp s₂ H σ,zk (jk X scope tn pins cl C fp s₂ H) tg n σ)
 (ht:∀pins cl C fp s₂ H,kS (jk X scope tn pins cl C fp s₂ H) ifs δt)
 (he:∀pins cl C fp s₂ H,PD (jk X scope tn pins cl C fp s₂ H) (fun _ _=>False) elt δe)
 (I:Inv X pins σ H s)(S:StE X.K F H σ ρ)(w:WP X.K Xw F H (aJ n δi δt δe ρ) Q)
 (BH:∀x c,cl.lookup x=some c→X.env.cells.lookup x=some c)(JL:∀x,scope.names.lookup x=some .free→∃c,cl.lookup x=some c)
 (Qs:∀(s1:Shared) (C D:Addr) (H':Hp),Inv X pins σ H' s1→Q (.ref D) H'→BlockEnd X pins C H' s1→RR (.ref D) C (.ok .next) s1):
 wpAny (model X.prog X.w) X.A (eval iter X.env) (fun x s₁=>wpAny (model X.prog X.w) X.A (pyIter x) (fun it s₂=>wpAny (model X.prog X.w) X.A (newList []) (fun acc s₃=>
  wpAny (model X.prog X.w) X.A (newFunctionEnv scope X.env.globals cl [] X.env.qual none .none (some X.env)) (fun Ka s₄=>
   codeAny (model X.prog X.w) X.A (.compStart (.ListComp elt [⟨tg,iter,ifs,0⟩] scope pos) 0 it acc {Ka with scope:=relabel scope X.env}) (RR acc Ka.locals) s₄) X.xe s₃) X.xe s₂) X.xe s₁) X.xe s:=by
 refine b5 (hi pins s σ H (fun J H2=>∃F2 ds,Ext F H F2 H2∧ItD X.K F2 J ds∧WP X.K Xw F2 H2 (noex (cP (eO n δt δe ρ) ds)>>=fq) Q) I ⟨F,ρ,S,?_⟩) fun xv s₁ h₁=>b5 h₁ fun it s₂ h₂=>?_
 ·unfold aJ at w
  rcases(δi ρ).cs with hq | ⟨m,hq⟩ | ⟨ds,hq⟩
  ·rw[hq] at w;exact w.elim
  ·rw[hq] at w⊢;exact w
  ·rw[hq] at w⊢;exact fun J H' F' e q=>⟨F',ds,e,q,WP.ext e w⟩
 obtain⟨ia,fp,PQ,J,H2,rfl,I2,T,xN,f2,F2,ds,e2,Ld,w2⟩:=h₂
 obtain⟨R,hR,O3,w2⟩:∃R,cP (eO n δt δe ρ) ds=M.ret R∧R.length≤lim∧WP X.K Xw F2 H2 (M.ret (.lst R)) Q:=by
  rcases(cP (eO n δt δe ρ) ds).cs with hq | ⟨m,hq⟩ | ⟨R,hq⟩
  ·rw[hq] at w2;exact w2.elim
  ·rw[hq] at w2;exact w2.elim
  ·rw[hq] at w2
   obtain⟨h1,h2⟩:=wX (X:=X) (f:=D.lst) (show WP X.K Xw F2 H2 (fq R) Q from w2)
   exact⟨R,hq,h1,h2⟩
 refine wpAny_newObj_type (wpAny_newFunctionEnv sc.nocell (by intro y hy;simp at hy) (fun h₁ HV E6=>?_) sc.kind)
 dsimp only at HV E6⊢
 generalize MX:s₂.heap.push {cls:= .type "list",dict:=none,data:= .seq ([]:List Value).toArray}=HL at HV E6⊢
 have hC:HL.objs.size=s₂.heap.objs.size+1:=by rw[←MX,Heap.size_push]
 have zN:s₂.heap.objs.size<HL.objs.size:=by rw[hC];exact Nat.lt_succ_self _
 have old:∀b o,s₂.heap.get? b=some o→h₁.get? b=some o:=fun b o e=>E6.extBut b o (Nat.ne_of_lt (Nat.lt_trans (Heap.lt_size e) zN)) (Heap.get?_push_of_some _ (MX▸Heap.get?_push_of_some _ e))
 have pM:h₁.get? s₂.heap.objs.size=some {cls:= .type "list",data:= .seq ([]:List Value).toArray}:=E6.extBut _ _ (Nat.ne_of_lt zN) (Heap.get?_push_of_some _ (MX▸Heap.get?_push_size _ rfl))
 have nD:H2 s₂.heap.objs.size=none:=I2.hok.fresh (Nat.le_refl _)
 have nC:H2 HL.objs.size=none:=I2.hok.fresh (Nat.le_of_lt zN)
 have gC:s₂.heap.get? HL.objs.size=none:=Heap.get?_none_of_le (Nat.le_of_lt zN)
 have fl:∀b∈fp,b<s₂.heap.objs.size:=fun b hb=>by
  obtain⟨o,e,_⟩:=T.obj 0 _ xN b hb
  exact Heap.lt_size e
 generalize uo:jk X scope tn pins cl HL.objs.size fp s₂ H2=X'
 have PF:X'.Ok:=by
  subst uo
  refine⟨I2.ok.mod,sc.kind,I2.ok.glob,I2.ok.blt,Nat.le_of_lt zN,fun x y c h1 h2=>I2.ok.inj x y c (BH _ _ h1) (BH _ _ h2),fun x hx=>?_,fun _ _ h=>(by cases h),I2.ok.hd,I2.ok.frames, .inl rfl,
   fun b hb=>⟨Nat.ne_of_lt (Nat.lt_trans (fl b hb) zN),fun x c h=>(f2 b hb).2.2.2.2.1 x c (BH _ _ h)⟩,I2.bs,Nat.le_trans I2.ok.bsz I2.sz,fun b o e hb=>?_,fun b hb z=>?_,I2.stack,I2.stkFree⟩
  ·have hx:(relabel scope X.env).names.lookup x=some .cell∨(relabel scope X.env).names.lookup x=some .free:=hx
   exact JL x (sW sc.nocell hx)
  ·rcases(f2 b hb).2.2.2.1 with z | z
   ·exact I2.ok.noex b o e z
   ·exact absurd (Nat.lt_of_lt_of_le (Heap.lt_size (I2.ok.bs b o e).1) z) (Nat.lt_irrefl _)
  ·rcases List.mem_cons.mp (I2.stkSub b z) with q | q
   ·exact(f2 b hb).2.1 q
   ·exact(f2 b hb).2.2.1 q
 have N4:∀b o,H2 b=some o→b≠s₂.heap.objs.size:=fun b o e=>bc e nD
 have Hy:∀{H':Hp},(∀b∈fp,H' b=none)→∀b∈fp,pD X' [] H' b:=fun Q3 b hb=>by
  subst uo
  refine⟨Q3 b hb,Nat.ne_of_lt (Nat.lt_trans (fl b hb) zN),fun z=>PF.exfs b hb z, .inl hb,fun x c h=>(f2 b hb).2.2.2.2.1 x c (BH _ _ h),fun p hp=>?_⟩
  rw[List.append_nil] at hp
  exact(f2 b hb).2.2.2.2.2 p hp
 have I0:Inv X' [] (List.replicate (max n 1) none++σ) (upd H2 s₂.heap.objs.size (.lst [])) {s₂ with heap:=h₁,toks:=s₂.toks+([]:List (Str×Value)).length}:=by
  subst uo
  have ND:HOk X.prog X.w (upd H2 s₂.heap.objs.size (.lst [])) h₁:=I2.hok.laid old (Nat.le_refl _) ⟨Nat.zero_le _,[],_, .nil,pM⟩
  refine⟨PF,rfl,I2.bare,Un.laid old (Nat.le_refl _) nD,⟨_,HV,fun i x v h1 h2 h3=>?_⟩,fun x c h=>?_,?_,fun x c h=>?_,fun p hp=>?_,ND,?_⟩
  ·by_cases hi:i<max n 1
   ·rw[List.getElem?_append_left (by simpa using hi),List.getElem?_replicate,if_pos hi] at h2
    cases h2
   ·have tU:tn.length≤i:=by omega
    have h1:(tn++bM tn X.N)[i]? =some x:=h1
    rw[List.getElem?_append_right tU] at h1
    rw[List.getElem?_append_right (by simpa using hi),List.length_replicate,←hn] at h2
    have hN:∃y,X.N[i - tn.length]? =some y∧(x,y)∈(bM tn X.N).zip X.N:=by
     have dw:=(List.getElem?_eq_some_iff.mp h1).1
     have KL:i - tn.length<X.N.length:=by simpa[bM] using dw
     refine⟨X.N[i - tn.length],List.getElem?_eq_getElem KL,?_⟩
     refine List.mem_iff_getElem?.mpr ⟨i - tn.length,?_⟩
     rw[List.getElem?_zip_eq_some]
     exact⟨h1,List.getElem?_eq_getElem KL⟩
    obtain⟨y,hy,hm⟩:=hN
    have hV:(relabel scope X.env).names.lookup x=some .local∨(relabel scope X.env).names.lookup x=some .cell∨(relabel scope X.env).names.lookup x=some .free:=h3
    rcases sc.vis _ hm with rW | ⟨NQ,GY⟩
    ·have rW:scope.names.lookup x=none:=rW
     have:(relabel scope X.env).names.lookup x=none:=sX rW
     rw[this] at hV
     rcases hV with z | z | z<;>cases z
    ·have NQ:x=y:=NQ
     subst NQ
     have GY:scope.names.lookup x=some .free:=GY
     have hk:=sc.frees (x, .free) (PySem.mem_of_lookup GY) rfl
     obtain⟨m,zV,Cf⟩:=I2.loc
     obtain⟨u,ru,lk⟩:=Cf _ x v hy h2 (by rcases hk with z | z;exact .inr (.inl z);exact .inr (.inr z))
     refine⟨u,ru, .inr ⟨?_,?_⟩⟩
     ·rcases hV with z | z | z
      ·exact absurd z (lJ GY)
      ·exact .inl z
      ·exact .inr z
     ·rcases lk with⟨z,_⟩ | ⟨_,c,Qy,HH⟩
      ·rcases hk with q | q
       ·rw[show X.env.kindOf x=some .local from z] at q;cases q
       ·rw[show X.env.kindOf x=some .local from z] at q;cases q
      ·obtain⟨c',zP⟩:=JL x GY
       have:=BH _ _ zP
       rw[Qy] at this
       cases this
       obtain⟨o,ho,hd⟩:=HH
       exact⟨c,zP,o,old _ _ ho,hd⟩
  ·obtain⟨v,o,ho,hd⟩:=I2.cell x c (BH _ _ h)
   exact⟨v,o,old _ _ ho,hd⟩
  ·show upd H2 s₂.heap.objs.size (.lst []) HL.objs.size=none
   rw[au (Nat.ne_of_gt zN)]
   exact nC
  ·have GX:=BH _ _ h
   obtain⟨v,q⟩:=I2.cell x c GX
   rw[au (Nat.ne_of_lt q.lt)]
   exact I2.freeC x c GX
  ·rw[List.append_nil] at hp
   obtain⟨e,nn,ne,nf,d⟩:=I2.pin p hp
   have dw:=Heap.lt_size e
   refine⟨old _ _ e,by rw[au (Nat.ne_of_lt dw)];exact nn,Nat.ne_of_lt (Nat.lt_trans dw zN),fun z=>?_,d⟩
   rcases List.mem_cons.mp (I2.stkSub p.1 z) with q | q
   ·exact ne q
   ·exact nf q
  ·show (List.replicate (max n 1) none++σ).length=(tn++bM tn X.N).length
   rw[List.length_append,List.length_append,List.length_replicate,hn,show (bM tn X.N).length=X.N.length from by simp[bM],I2.len]
 have loop:∀s₃:Shared,s₃={s₂ with heap:=h₁,toks:=s₂.toks+([]:List (Str×Value)).length}→
  codeAny (model X.prog X.w) X.A (.compLoop (.ListComp elt [⟨tg,iter,ifs,0⟩] scope pos) 0 (.ref ia) (.ref s₂.heap.objs.size) (compEnvC scope cl HL.objs.size X.env))
   (RR (.ref s₂.heap.objs.size) HL.objs.size) s₃:=by
  intro s₃ pB
  have BY:X'.env=compEnvC scope cl HL.objs.size X.env:=by subst uo;rfl
  have hA:X'.A=X.A:=by subst uo;rfl
  have hP:X'.prog=X.prog:=by subst uo;rfl
  have hw:X'.w=X.w:=by subst uo;rfl
  have hK:X'.K=X.K:=by subst uo;rfl
  have Rk:X'.xe=fun _ _=>False:=by subst uo;rfl
  have GV:X'.calm=true:=by subst uo;exact hc
  have QG:X'.fs=mR X.stack:=by subst uo;rfl
  have hex:X'.ex=fp:=by subst uo;rfl
  have Qp:X'.H₀=H2:=by subst uo;rfl
  have Pj:X'.s₀=s₂:=by subst uo;rfl
  have pass:∀{α:Type}{t:Sem α}{P:α→Shared→Prop}{E':Value→Shared→Prop}{s:Shared},wpAny (model X'.prog X'.w) X'.A t P X'.xe s→wpAny (model X.prog X.w) X.A t P E' s:=fun {α t P E' s} h=>by
   rw[hP,hw,hA,Rk] at h
   exact wpAny_mono h (fun _ _ q=>q) fun _ _ q=>q.elim
  refine zF (fun m s'=>∃(i:Nat) (F' H':Hp) (vs:List V) (ys:List D) (σt:St),m=ds.length - i∧i≤ds.length∧σt.length=max n 1∧Inv X' [] (σt++σ) H' s'∧PQ i s'.heap∧(∀b∈fp,H' b=none)∧Ext F2 H2 F' H'∧
   H' s₂.heap.objs.size=some (.lst vs)∧F' s₂.heap.objs.size=none∧DenL X.K F' ys vs∧cP (eO n δt δe ρ) ds=(cP (eO n δt δe ρ) (ds.drop i)>>=fun r=>M.ret (ys++r))) ?_ ds.length ?_
  ·rintro m s' ⟨i,F',H',vs,ys,σt,rfl,Nq,Rq,I',lR,OT,wy,hD,fD,Mp,heq⟩
   by_cases dw:i<ds.length
   ·
    obtain⟨d,hd⟩:∃d,ds[i]? =some d:=⟨_,List.getElem?_eq_getElem dw⟩
    obtain⟨Nl,Ib⟩:=(Ld F' H' i wy.ff wy.fh).1 d hd
    obtain⟨o,ho,KA⟩:=wo hd heq hR
    have NR:ys.length≤lim:=by
     rw[heq] at hR
     obtain⟨r,_,hr⟩:=gg hR
     rw[←eG hr,List.length_append] at O3
     omega
    obtain⟨ts,Rf,ho⟩:=gg ho
    refine pass ?_
    rw[hP,hw]
    refine b5 (T.item X' hP hw hK GV i [] s' (σt++σ) H' X'.xe I' (Hy OT) lR Nl) ?_
    rintro r s1 ⟨u,rfl,h1⟩
    refine pass ?_
    rw[hP,hw]
    refine b5 h1 ?_
    rintro _ s2 ⟨x,H3,I3,rx,y3,JY,Ma⟩
    obtain⟨F3,Ey,q3⟩:=Ib x H3 y3
    have OY:H3 s₂.heap.objs.size=some (.lst vs):=Ey.hh _ _ hD
    have Qd:F3 s₂.heap.objs.size=none:=by rw[Ey.old hD (fun _ z=>nomatch z)];exact fD
    have I3':=I3.pinned (Hy Ma) (T.obj _ _ JY)
    have yF:∀{σ7:St}{H7:Hp}{s7:Shared},Inv X' ([]++oR fp s2.heap) σ7 H7 s7→PQ (i+1) s7.heap∧∀b∈fp,H7 b=none:=fun {σ7 H7 s7} I7=>
     ⟨T.keep _ _ _ JY fun b hb o e=>(I7.pin (b,o) (List.mem_append_right _ (List.mem_append_right _ (gq hb e)))).1,fun b hb=>by
      obtain⟨o,e,_⟩:=T.obj _ _ JY b hb
      exact(I7.pin (b,o) (List.mem_append_right _ (List.mem_append_right _ (gq hb e)))).2.1⟩
    have QH:zk X' tg n σ:=by subst uo;exact hg _ _ _ _ _ _ _
    have Ra:kS X' ifs δt:=by subst uo;exact ht _ _ _ _ _ _
    have QC:PD X' (fun _ _=>False) elt δe:=by subst uo;exact he _ _ _ _ _ _
    refine pass ?_
    rw[←BY]
    refine b5 (QH _ s2 (σt++σ) F3 H3 d ts x u I3' Ey.fh (by rw[←Rq];simp) rx (by rw[hK];exact q3) Rf) ?_
    rintro _ s4 ⟨vt,I4,dt⟩
    rw[hK] at dt
    have S4:StE X.K F3 H3 (vt.map some++σ) (ts.map (fun t=>some (Sl.fz t))++ρ):=StE.cons ((S.ext e2).ext (wy.trans Ey)) dt
    obtain⟨b,hb,ho⟩:=gg ho
    refine pass ?_
    try rw[←BY]
    refine b5 (Ra _ s4 _ H3 (fun b' H5=>b'=b∧∃F5,Ext F3 H3 F5 H5) I4 ⟨F3,_,by rw[hK];exact S4,by rw[hb];exact WPB.take⟩) ?_
    rintro b' s5 ⟨H5,I5,rfl,F5,Hu⟩
    have MW:H5 s₂.heap.objs.size=some (.lst vs):=Hu.hh _ _ OY
    have OQ:F5 s₂.heap.objs.size=none:=by rw[Hu.old OY (fun _ z=>nomatch z)];exact Qd
    cases b' with
    |false=>
     rw[if_neg Bool.false_ne_true] at ho⊢
     obtain rfl:=eG ho
     refine⟨ds.length - (i+1),by omega,i+1,F5,H5,vs,ys,vt.map some,rfl,dw,?_,I5.unpinned,(yF I5).1,(yF I5).2,wy.trans (Ey.trans Hu),MW,OQ,DenL.mono (Ey.trans Hu).ff Mp,KA⟩
     have h1:=I5.len
     have h2:=I3.len
     rw[List.length_append] at h1 h2
     omega
    |true=>
     rw[if_pos rfl] at ho⊢
     obtain⟨yv,hy,ho⟩:=gg ho
     obtain rfl:=eG ho
     refine pass ?_
     try rw[←BY]
     refine b5 (QC _ s5 _ H5 (fun v H6=>∃F6,Ext F5 H5 F6 H6∧Den X.K F6 yv v) I5 ⟨F5,_,by rw[hK];exact S4.ext Hu,by rw[hy,hK];exact WP.take⟩) ?_
     rintro xv s6 ⟨v,H6,I6,rv,F6,L_,qv⟩
     have Qo:H6 s₂.heap.objs.size=some (.lst vs):=L_.hh _ _ MW
     have OR:F6 s₂.heap.objs.size=none:=by rw[L_.old MW (fun _ z=>nomatch z)];exact OQ
     have Rj:vs.length<sizeLine:=by
      have:=Mp.len
      have:=c8
      omega
     refine pass ?_
     refine b5 (qD _ s6 _ H6 (.ref s₂.heap.objs.size) [v] (.ref s₂.heap.objs.size) [xv] (fun _ H7=>H7=upd H6 s₂.heap.objs.size (.lst (vs++[v]))) I6 rfl (.cons rv .nil) ⟨_,vs,v,rfl,rfl,Qo,Rj,rfl⟩) ?_
     rintro _ s7 ⟨_,H7,I7,_,rfl⟩
     have Qc:Ext F2 H2 F6 (upd H6 s₂.heap.objs.size (.lst (vs++[v]))):=by
      have e:=wy.trans (Ey.trans (Hu.trans L_))
      refine⟨fun b u q=>?_,e.ff,fun b u q=>?_,e.new⟩
      ·rw[au (N4 b u q)];exact e.hh b u q
      ·rw[au (fun z=>by rw[z,OR] at q;cases q)];exact e.fh b u q
     refine⟨ds.length - (i+1),by omega,i+1,F6,_,vs++[v],ys++[yv],vt.map some,rfl,dw,?_,I7.unpinned,(yF I7).1,(yF I7).2,Qc,aF,OR,
      DenL.append (DenL.mono (Ey.trans (Hu.trans L_)).ff Mp) (.cons qv .nil),KA⟩
     have h1:=I5.len
     have h2:=I3.len
     rw[List.length_append] at h1 h2
     omega
   ·
    have hi:i=ds.length:=by omega
    subst hi
    rw[List.drop_length] at heq
    have Qt:R=ys:=by
     rw[heq] at hR
     have hR:M.ret (ys++[])=M.ret R:=hR
     rw[←eG hR,List.append_nil]
    subst Qt
    refine pass ?_
    rw[hP,hw]
    refine b5 (T.done X' hP hw hK GV ds.length [] s' (σt++σ) H' X'.xe I' (Hy OT) lR ((Ld F' H' ds.length wy.ff wy.fh).2 (Nat.le_refl _))) ?_
    rintro r s1 ⟨rfl,I1⟩
    obtain⟨m,hm,_⟩:=I1.loc
    rw[BY] at hm
    have Qn:H' HL.objs.size=none:=by
     have:=I1.free
     rw[BY] at this
     exact this
    have u:=I1.base
    rw[QG,hex,Qp,Pj] at u
    have Cj:s1.os=s₂.os:=by have:=I1.os;rw[Pj] at this;exact this
    have KC:=I1.hok
    rw[hP,hw] at KC
    refine Qs s1 HL.objs.size s₂.heap.objs.size H' (I2.call' (s':=s1) (ch:=fp) Cj u KC I1.bare (fun b hb=>⟨(f2 b hb).2.2.2.1,(f2 b hb).2.1,(f2 b hb).2.2.2.2.1,(f2 b hb).2.2.2.2.2⟩)) ?_
     ⟨⟨m,hm⟩,Qn,Nat.ne_of_gt (Nat.lt_trans I2.lt zN),Nat.le_trans I2.sz (Nat.le_of_lt zN),fun x c q z=>?_,fun p hp z=>?_⟩
    rotate_left
    ·obtain⟨v,q'⟩:=I2.cell x c q
     exact absurd (Nat.lt_trans q'.lt zN) (by rw[z];exact Nat.lt_irrefl _)
    ·exact absurd (Nat.lt_trans (Heap.lt_size (I2.pin p hp).1) zN) (by rw[z];exact Nat.lt_irrefl _)
    refine WP.fin w2 (F':=upd F' s₂.heap.objs.size (.lst vs)) ⟨wy.hh,fun b u q=>?_,fun b u q=>?_,fun a ha=>?_⟩ ⟨_,vs,rfl,aF,DenL.mono (fun b u q=>?_) Mp,O3⟩
    ·rw[au (fun z=>by have:=wy.ff b u q;rw[z,fD] at this;cases this)];exact wy.ff b u q
    ·by_cases z:b=s₂.heap.objs.size
     ·rw[z,aF] at q;rw[z,hD];exact q
     ·rw[au z] at q;exact wy.fh b u q
    ·rcases wy.new a ha with q | q
     ·exact .inl (by rw[au (fun z=>ha (by rw[z];exact nD))];exact q)
     ·exact .inr q
    ·rw[au (fun z=>by rw[z,fD] at q;cases q)];exact q
  ·rw[pB]
   refine⟨0,F2,_,[],[],List.replicate (max n 1) none,by simp,Nat.zero_le _,by simp,I0,T.keep _ _ _ xN (fun b hb o e=>old b o e),fun b hb=>?_,⟨fun b u q=>?_,Same.refl _,fun b u q=>?_,fun _ _=> .inl rfl⟩,aF,Same.free e2.fh nD,rfl,?_⟩
   ·rw[au (Nat.ne_of_lt (fl b hb))];exact(f2 b hb).1
   ·rw[au (N4 b u q)];exact q
   ·rw[au (N4 b u (e2.fh b u q))];exact e2.fh b u q
   ·rw[List.drop_zero]
    rcases(cP (eO n δt δe ρ) ds).cs with hq | ⟨m,hq⟩ | ⟨R,hq⟩<;>rw[hq]<;>rfl
 exact codeAny_compStart_list (loop _ rfl) (T.self X.A 0 _ _ _ (T.keep _ _ _ xN (fun b hb o e=>old b o e)) (loop _ rfl))
theorem Inv.block{X:Cx}{pins:List (Addr×Obj)}{σ:St}{H':Hp}{s1:Shared}{C:Addr}{h':Heap}(I:Inv X pins σ H' s1)(b:BlockEnd X pins C H' s1)(Bm:Heap.SameBut C s1.heap h'):Inv X pins σ H' {s1 with heap:=h'}:=
 I.turned (t':=s1.toks) (fun a o ha e=>(Bm.2 a ha).trans e) b.free b.nl (.inr b.nw) b.nc b.np
section
variable{X:Cx}{Xw:Nat→Hp→Prop}{elt iter tg:Expr}{ifs:List Expr}{scope:Scope}{pos:Pos}{tn:List Str}{n:Nat}{δi:DA}{δt:DT}{δe:DE}
theorem bT(sc:CompSc X scope tn)(hn:tn.length=max n 1)(hc:X.calm=true)(hi:v7 X Xw tg iter δi)
 (hg:∀pins cl C fp s₂ H σ,zk (jk X scope tn pins cl C fp s₂ H) tg n σ)
 (ht:∀pins cl C fp s₂ H,kS (jk X scope tn pins cl C fp s₂ H) ifs δt)
 (he:∀pins cl C fp s₂ H,PD (jk X scope tn pins cl C fp s₂ H) (fun _ _=>False) elt δe)
 (hs:∀x,foldedSetIterable iter X.env x=pure x:=by intro _;rfl):
 PD X Xw (.ListComp elt [⟨tg,iter,ifs,0⟩] scope pos) (aJ n δi δt δe):=by
 intro pins s σ H Q I ⟨F,ρ,S,w⟩
 obtain⟨cl,Ca,BH,JL⟩:=nq (scope:=scope) (env:=X.env) fun y hy hf=>I.ok.has y.1 (sc.frees y hy hf)
 rw[eval_ListComp]
 refine wpAny_comprehension_free (use:=none) rfl hs Ca sc.kind sc.names (t9 (RR:=fun acc C=>compPost (model X.prog X.w) X.A X.xe none (EP X pins σ Q) acc C) sc hn hc hi hg ht he I S w BH JL fun s1 C D H' I1 q b=>?_)
 obtain⟨m,hm⟩:=b.ns
 exact⟨m,hm,fun h' Bm=>⟨.ref D,H',Inv.block I1 b Bm,rfl,q⟩⟩
end
inductive Out where
 |nx (ρ:a9) | rt (d:D)
abbrev DS:=a9→M Out
structure StOk (K:W.Frag) (F₀ H₀ F H:Hp) (σ:St) (ρ:a9):Prop where
 ext:Ext F₀ H₀ F H
 st:StE K F H σ ρ
 len:ρ.length=σ.length
 own:∀(i:Nat) (c:C) (a:Addr),ρ[i]? =some (some (.ow c))→σ[i]? =some (some (.ref a))→H₀ a=none
 sep:∀(i j:Nat) (c c':C) (a:Addr),ρ[i]? =some (some (.ow c))→ρ[j]? =some (some (.ow c'))→σ[i]? =some (some (.ref a))→σ[j]? =some (some (.ref a))→i=j
def WPS(K:W.Frag)(Xw:Nat→Hp→Prop)(F₀ H₀:Hp)(m:M Out)(Dn:Ends):Prop:=
 match m with
 |none=>False
 |some (.ok (.nx ρ))=>∀σ F H,StOk K F₀ H₀ F H σ ρ→Dn.nx σ H
 |some (.ok (.rt d))=>∀v F H,Ext F₀ H₀ F H→Den K F d v→Dn.rt v H
 |some (.ex n)=>∀F H,Ext F₀ H₀ F H→Xw n H
def tS(K:W.Frag)(Xw:Nat→Hp→Prop)(F₀ H₀:Hp)(τ:DS):TS:=fun Dn σ H=>∃F ρ,StOk K F₀ H₀ F H σ ρ∧WPS K Xw F₀ H₀ (τ ρ) Dn
def kR(X:Cx)(Xw:Nat→Hp→Prop)(st:Stmt)(τ:DS):Prop:=∀F₀ H₀,PS X st (tS X.K Xw F₀ H₀ τ)
def PSDs(X:Cx)(Xw:Nat→Hp→Prop)(st:List Stmt)(τ:DS):Prop:=∀F₀ H₀,PSs X st (tS X.K Xw F₀ H₀ τ)
theorem PS.weak{X:Cx}{st:Stmt}{t t':TS}(h:PS X st t)(k:∀D σ H,t' D σ H→t D σ H):PS X st t':=fun pins s σ H D I w=>h pins s σ H D I (k D σ H w)
theorem PSs.weak{X:Cx}{st:List Stmt}{t t':TS}(h:PSs X st t)(k:∀D σ H,t' D σ H→t D σ H):PSs X st t':=fun pins s σ H D I w=>h pins s σ H D I (k D σ H w)
section
variable{K:W.Frag}{Xw:Nat→Hp→Prop}{F₀ H₀ F H F' H':Hp}{σ:St}{ρ:a9}
theorem StOk.ext'(s:StOk K F₀ H₀ F H σ ρ)(e:Ext F H F' H'):StOk K F₀ H₀ F' H' σ ρ:=⟨s.ext.trans e,s.st.ext e,s.len,s.own,s.sep⟩
theorem StOk.set(s:StOk K F₀ H₀ F H σ ρ){i:Nat}{d:D}{v:V}(h:Den K F d v):StOk K F₀ H₀ F H (σ.set i (some v)) (ρ.set i (some (.fz d))):=by
 have hl:=s.len
 have get:∀(j:Nat) (sl:Sl),(ρ.set i (some (.fz d)))[j]? =some (some sl)→(j=i∧i<ρ.length∧sl= .fz d)∨(j≠i∧ρ[j]? =some (some sl)):=fun j sl e=>by
  by_cases hj:j=i
  ·subst hj
   have hi:j<ρ.length:=by
    have:=(List.getElem?_eq_some_iff.mp e).1
    simpa using this
   rw[List.getElem?_set_self hi] at e
   cases e
   exact .inl ⟨rfl,hi,rfl⟩
  ·rw[List.getElem?_set_ne (Ne.symm hj)] at e
   exact .inr ⟨hj,e⟩
 refine⟨s.ext,⟨s.st.fh,fun j sl e=>?_⟩,by simp[hl],fun j c a e e'=>?_,fun j k c c' a e1 e2 e3 e4=>?_⟩
 ·rcases get j sl e with⟨rfl,hi,rfl⟩ | ⟨hj,e⟩
  ·exact⟨v,by rw[List.getElem?_set_self (by omega)],h⟩
  ·obtain⟨u,h1,h2⟩:=s.st.den j sl e
   exact⟨u,by rw[List.getElem?_set_ne (Ne.symm hj)];exact h1,h2⟩
 ·rcases get j _ e with⟨_,_,z⟩ | ⟨hj,e⟩
  ·cases z
  ·rw[List.getElem?_set_ne (Ne.symm hj)] at e'
   exact s.own j c a e e'
 ·rcases get j _ e1 with⟨_,_,z⟩ | ⟨hj,e1⟩
  ·cases z
  ·rcases get k _ e2 with⟨_,_,z⟩ | ⟨hk,e2⟩
   ·cases z
   ·rw[List.getElem?_set_ne (Ne.symm hj)] at e3
    rw[List.getElem?_set_ne (Ne.symm hk)] at e4
    exact s.sep j k c c' a e1 e2 e3 e4
theorem StOk.setNew(s:StOk K F₀ H₀ F H σ ρ){i:Nat}{a:Addr}{o:HO}{c₀:C}(n:H a=none)(h:DenC K F c₀ o):
 StOk K F₀ H₀ F (upd H a o) (σ.set i (some (.ref a))) (ρ.set i (some (.ow c₀))):=by
 have hle:=s.len
 have e0:=Ext.free (o:=o) s.st.fh n
 have nF:F a=none:=Same.free s.st.fh n
 have get:∀(j:Nat) (sl:Sl),(ρ.set i (some (.ow c₀)))[j]? =some (some sl)→(j=i∧i<ρ.length∧sl= .ow c₀)∨(j≠i∧ρ[j]? =some (some sl)):=fun j sl e=>by
  by_cases hj:j=i
  ·subst hj
   have hi:j<ρ.length:=by
    have:=(List.getElem?_eq_some_iff.mp e).1
    simpa using this
   rw[List.getElem?_set_self hi] at e
   cases e
   exact .inl ⟨rfl,hi,rfl⟩
  ·rw[List.getElem?_set_ne (Ne.symm hj)] at e
   exact .inr ⟨hj,e⟩
 have old:∀(j:Nat) (c:C) (b:Addr),ρ[j]? =some (some (.ow c))→σ[j]? =some (some (.ref b))→b≠a:=fun j c b e e' z=>by
  obtain⟨u,h1,b',o,h2,h3,_⟩:=s.st.den j _ e
  rw[h1] at e'
  cases e'
  cases h2
  rw[z,n] at h3
  cases h3
 refine⟨s.ext.trans e0,⟨e0.fh,fun j sl e=>?_⟩,by simp[hle],fun j c b e e'=>?_,fun j k c c' b e1 e2 e3 e4=>?_⟩
 ·rcases get j sl e with⟨rfl,hi,rfl⟩ | ⟨hj,e⟩
  ·exact⟨.ref a,by rw[List.getElem?_set_self (by omega)],a,_,rfl,aF,nF,h⟩
  ·obtain⟨u,h1,h2⟩:=s.st.den j sl e
   exact⟨u,by rw[List.getElem?_set_ne (Ne.symm hj)];exact h1,h2.ext e0⟩
 ·rcases get j _ e with⟨rfl,hi,_⟩ | ⟨hj,e⟩
  ·rw[List.getElem?_set_self (by omega)] at e'
   cases e'
   exact Same.free s.ext.hh n
  ·rw[List.getElem?_set_ne (Ne.symm hj)] at e'
   exact s.own j c b e e'
 ·rcases get j _ e1 with⟨rfl,hi,_⟩ | ⟨hj,e1⟩
  ·rw[List.getElem?_set_self (by omega)] at e3
   cases e3
   rcases get k _ e2 with⟨rfl,_,_⟩ | ⟨hk,e2⟩
   ·rfl
   ·rw[List.getElem?_set_ne (Ne.symm hk)] at e4
    exact absurd rfl (old k c' a e2 e4)
  ·rcases get k _ e2 with⟨Nw,hi,_⟩ | ⟨hk,e2⟩
   ·rw[Nw,List.getElem?_set_self (by omega)] at e4
    cases e4
    rw[List.getElem?_set_ne (Ne.symm hj)] at e3
    exact absurd rfl (old j c a (by assumption) e3)
   ·rw[List.getElem?_set_ne (Ne.symm hj)] at e3
    rw[List.getElem?_set_ne (Ne.symm hk)] at e4
    exact s.sep j k c c' b e1 e2 e3 e4
theorem StOk.chg(s:StOk K F₀ H₀ F H σ ρ){i:Nat}{a:Addr}{c c₀:C}{o₀:HO}(hi:ρ[i]? =some (some (.ow c)))(ha:σ[i]? =some (some (.ref a)))(h:DenC K F c₀ o₀):
 StOk K F₀ H₀ F (upd H a o₀) σ (ρ.set i (some (.ow c₀))):=by
 have hle:=s.len
 have h0:=s.own i c a hi ha
 obtain⟨u,q1,a',o,q2,q3,q4,q5⟩:=s.st.den i _ hi
 rw[ha] at q1
 cases q1
 cases q2
 have Np:i<ρ.length:=(List.getElem?_eq_some_iff.mp hi).1
 have get:∀(j:Nat) (sl:Sl),(ρ.set i (some (.ow c₀)))[j]? =some (some sl)→(j=i∧sl= .ow c₀)∨(j≠i∧ρ[j]? =some (some sl)):=fun j sl e=>by
  by_cases hj:j=i
  ·subst hj
   rw[List.getElem?_set_self Np] at e
   cases e
   exact .inl ⟨rfl,rfl⟩
  ·rw[List.getElem?_set_ne (Ne.symm hj)] at e
   exact .inr ⟨hj,e⟩
 have fh:Same F (upd H a o₀):=fun b o e=>by
  rw[au (fun z=>by rw[z,q4] at e;cases e)];exact s.st.fh b o e
 refine⟨⟨fun b o e=>?_,s.ext.ff,fh,s.ext.new⟩,⟨fh,fun j sl e=>?_⟩,by simp[hle],fun j c' b e e'=>?_,fun j k c1 c2 b e1 e2 e3 e4=>?_⟩
 ·rw[au (fun z=>by rw[z,h0] at e;cases e)];exact s.ext.hh b o e
 ·rcases get j sl e with⟨rfl,rfl⟩ | ⟨hj,e⟩
  ·exact⟨.ref a,ha,a,_,rfl,aF,q4,h⟩
  ·obtain⟨u,h1,h2⟩:=s.st.den j sl e
   refine⟨u,h1,?_⟩
   cases sl with
   |fz d=>exact h2
   |ow c'=>
    obtain⟨b,o',r1,r2,r3,r4⟩:=h2
    refine⟨b,o',r1,?_,r3,r4⟩
    rw[au (fun z=>hj (s.sep j i c' c a e hi (by rw[h1,r1,z]) ha))];exact r2
 ·rcases get j _ e with⟨rfl,_⟩ | ⟨hj,e⟩
  ·rw[ha] at e';cases e';exact h0
  ·exact s.own j c' b e e'
 ·have k1:∃c,ρ[j]? =some (some (.ow c)):=by
   rcases get j _ e1 with⟨rfl,_⟩ | ⟨_,e⟩
   ·exact⟨c,hi⟩
   ·exact⟨_,e⟩
  have k2:∃c,ρ[k]? =some (some (.ow c)):=by
   rcases get k _ e2 with⟨rfl,_⟩ | ⟨_,e⟩
   ·exact⟨c,hi⟩
   ·exact⟨_,e⟩
  obtain⟨_,k1⟩:=k1
  obtain⟨_,k2⟩:=k2
  exact s.sep j k _ _ b k1 k2 e3 e4
def frz(i:Nat)(ρ:a9):a9:=match ρ[i]? with
 |some (some (.ow c))=>ρ.set i (some (.fz c.d))
 |_=>ρ
theorem StOk.frz(s:StOk K F₀ H₀ F H σ ρ)(i:Nat)(obj:Addr→Obj):(∃a o,H a=some o∧DenC K F (ρ[i]?.elim (.lst []) fun x=>x.elim (.lst []) fun y=>match y with | .ow c=>c | _=> .lst []) o∧σ[i]? =some (some (.ref a))∧StOk K F₀ H₀ (upd F a (gZ (obj a) o)) (upd H a (gZ (obj a) o)) σ (frz i ρ))∨frz i ρ=ρ:=by
 unfold L3.frz
 split
 ·rename_i c₀ hi
  have hle:=s.len
  obtain⟨u,ha,a,o,rfl,q3,q4,HJ⟩:=s.st.den i _ hi
  refine .inl ⟨a,o,q3,by rw[hi];exact HJ,ha,?_⟩
  have h0:=s.own i _ a hi ha
  have Np:i<ρ.length:=(List.getElem?_eq_some_iff.mp hi).1
  have ff:Same F (upd F a (gZ (obj a) o)):=fun b o e=>by rw[au (fun z=>by rw[z,q4] at e;cases e)];exact e
  have fh:Same (upd F a (gZ (obj a) o)) (upd H a (gZ (obj a) o)):=fun b o e=>by
   by_cases z:b=a
   ·rw[z,aF] at e⊢;exact e
   ·rw[au z] at e⊢;exact s.st.fh b o e
  have get:∀(j:Nat) (sl:Sl),(ρ.set i (some (.fz c₀.d)))[j]? =some (some sl)→(j=i∧sl= .fz c₀.d)∨(j≠i∧ρ[j]? =some (some sl)):=fun j sl e=>by
   by_cases hj:j=i
   ·subst hj
    rw[List.getElem?_set_self Np] at e
    cases e
    exact .inl ⟨rfl,rfl⟩
   ·rw[List.getElem?_set_ne (Ne.symm hj)] at e
    exact .inr ⟨hj,e⟩
  refine⟨⟨fun b u q=>?_,s.ext.ff.trans ff,fh,fun b hb=>?_⟩,⟨fh,fun j sl e=>?_⟩,by simp[hle],fun j c' b e e'=>?_,fun j k c1 c2 b e1 e2 e3 e4=>?_⟩
  ·rw[au (fun z=>by rw[z,h0] at q;cases q)];exact s.ext.hh b u q
  ·rcases s.ext.new b hb with q | q
   ·exact .inl (by rw[au (fun z=>hb (by rw[z];exact h0))];exact q)
   ·exact .inr q
  ·rcases get j sl e with⟨rfl,rfl⟩ | ⟨hj,e⟩
   ·exact⟨.ref a,ha,DenC.den HJ ff aF⟩
   ·obtain⟨u,h1,h2⟩:=s.st.den j sl e
    refine⟨u,h1,?_⟩
    cases sl with
    |fz d=>exact Den.mono ff h2
    |ow c'=>
     obtain⟨b,o',r1,r2,r3,r4⟩:=h2
     have gR:b≠a:=fun z=>hj (s.sep j i c' _ a e hi (by rw[h1,r1,z]) ha)
     exact⟨b,o',r1,by rw[au gR];exact r2,by rw[au gR];exact r3,DenC.mono ff r4⟩
  ·rcases get j _ e with⟨_,z⟩ | ⟨hj,e⟩
   ·cases z
   ·exact s.own j c' b e e'
  ·rcases get j _ e1 with⟨_,z⟩ | ⟨_,e1⟩
   ·cases z
   ·rcases get k _ e2 with⟨_,z⟩ | ⟨_,e2⟩
    ·cases z
    ·exact s.sep j k _ _ b e1 e2 e3 e4
 ·exact .inr rfl
end
def join(F H:Hp):Hp:=fun a=>match F a with
 |some o=>some o
 |none=>H a
theorem StOk.rebase{K:W.Frag}{F₀ H₀ F H:Hp}{σ:St}{ρ:a9}(s:StOk K F₀ H₀ F H σ ρ):StOk K F (join F H₀) F H σ ρ∧∀F' H',Ext F (join F H₀) F' H'→Ext F₀ H₀ F' H':=by
 have hj:Same (join F H₀) H:=fun b o e=>by
  unfold join at e
  cases q:F b with
  |some u=>rw[q] at e;cases e;exact s.st.fh b _ q
  |none=>rw[q] at e;exact s.ext.hh b o e
 have h0:Same H₀ (join F H₀):=fun b o e=>by
  unfold join
  cases q:F b with
  |some u=>
   have h1:=s.st.fh b u q
   rw[s.ext.hh b o e] at h1
   exact h1.symm
  |none=>exact e
 refine⟨⟨⟨hj,Same.refl _,s.st.fh,fun _ _=> .inl rfl⟩,s.st,s.len,fun i c a e e'=>?_,s.sep⟩,fun F' H' x=>⟨h0.trans x.hh,s.ext.ff.trans x.ff,x.fh,fun a ha=>?_⟩⟩
 ·have h1:=s.own i c a e e'
  obtain⟨v,q1,a',o,q2,q3,q4,_⟩:=s.st.den i _ e
  rw[e'] at q1
  cases q1
  cases q2
  unfold join
  rw[q4]
  exact h1
 ·have:join F H₀ a≠none:=by
   cases q:H₀ a with
   |none=>exact absurd q ha
   |some o=>rw[h0 a o q];exact fun z=>nomatch z
  rcases s.ext.new a ha with p | p
  ·rcases x.new a this with q | ⟨ts,q⟩
   ·exact .inl (q.trans p)
   ·cases z:H₀ a with
    |none=>exact absurd z ha
    |some o=>
     rw[h0 a o z] at q
     exact .inr ⟨ts,q⟩
  ·exact .inr p
theorem StOk.unbase{K:W.Frag}{F₀ H₀ F U F' H':Hp}{σ:St}{ρ:a9}(k:∀F' H',Ext F U F' H'→Ext F₀ H₀ F' H')(s:StOk K F U F' H' σ ρ)(h:Same H₀ U):StOk K F₀ H₀ F' H' σ ρ:=
 ⟨k _ _ s.ext,s.st,s.len,fun i c a e e'=>Same.free h (s.own i c a e e'),s.sep⟩
theorem z7{K:W.Frag}{F₀ H₀ F H:Hp}{σ:St}{ρ:a9}(s:StOk K F₀ H₀ F H σ ρ):Same H₀ (join F H₀):=fun b o e=>by
 unfold join
 cases q:F b with
 |some u=>
  have h1:=s.st.fh b u q
  rw[s.ext.hh b o e] at h1
  exact h1.symm
 |none=>exact e
theorem Inv.refrz{X:Cx}{pins:List (Addr×Obj)}{σ:St}{H:Hp}{s:Shared}{a:Addr}{o o':HO}(I:Inv X pins σ H s)(e:H a=some o)
 (ho:o'=o∨∃u,o'= .frz ((s.heap.get? a).getD {cls:= .none,data:= .fields #[]}) u∧((∃k,o= .dT k∧u= .dT k)∨∃k,o= .dK k∧u= .dK k)):Inv X pins σ (upd H a o') s:=by
 rcases ho with rfl | ⟨u,rfl,hu⟩
 ·have:upd H a o'=H:=by
   funext b
   by_cases z:b=a
   ·rw[z,aF,e]
   ·rw[au z]
  rw[this];exact I
 have Q5:o=u:=by rcases hu with⟨k,h1,h2⟩ | ⟨k,h1,h2⟩<;>rw[h1,h2]
 subst Q5
 have nt:∀ts,o≠ .tup ts:=fun ts z=>by rcases hu with⟨k,h1,_⟩ | ⟨k,h1,_⟩<;>rw[h1] at z<;>cases z
 have nf:∀ob v,o≠ .frz ob v:=fun ob v z=>by rcases hu with⟨k,h1,_⟩ | ⟨k,h1,_⟩<;>rw[h1] at z<;>cases z
 have nb:∀p,o≠ .tbl p:=fun p z=>by rcases hu with⟨k,h1,_⟩ | ⟨k,h1,_⟩<;>rw[h1] at z<;>cases z
 have no:∀p,o≠ .own p:=fun p z=>by rcases hu with⟨k,h1,_⟩ | ⟨k,h1,_⟩<;>rw[h1] at z<;>cases z
 have ne:∀b,H b=none→b≠a:=fun b hb z=>by rw[z,e] at hb;cases hb
 have hk:=I.hok a o e
 have dw:=hk.lt
 obtain⟨ob,KR⟩:∃ob,s.heap.get? a=some ob:=by
  rcases hu with⟨k,h1,_⟩ | ⟨k,h1,_⟩
  ·subst h1;obtain⟨_,_,_,_,ob,_,_,q,_⟩:=hk;exact⟨ob,q⟩
  ·subst h1;obtain⟨_,_,_,_,ob,_,_,q,_⟩:=hk;exact⟨ob,q⟩
 rw[KR]
 refine⟨I.ok,I.os,I.bare,⟨I.base.keep,I.base.slot,fun b q h1 h2 h3=>?_,I.base.there,fun b xs q=>?_,fun b q1 v q=>?_,fun b ps q=>?_⟩,I.loc,I.cell,?_,fun x c q=>?_,fun p hp=>?_,fun b v q=>?_,I.len⟩
 ·have:=I.base.free b q h1 h2 h3
  rw[au (ne b this)];exact this
 ·have:=I.base.tups b xs q
  rw[au (fun z=>by rw[z,e] at this;exact nt xs (Option.some.inj this))];exact this
 ·have:=I.base.frzs b q1 v q
  rw[au (fun z=>by rw[z,e] at this;exact nf _ _ (Option.some.inj this))];exact this
 ·obtain⟨m,this⟩:=I.base.tbls b ps q
  exact⟨m,by rw[au (fun z=>by rw[z,e] at this;exact nb _ (Option.some.inj this))];exact this⟩
 ·rw[au (ne _ I.free)];exact I.free
 ·rw[au (ne _ (I.freeC x c q))];exact I.freeC x c q
 ·obtain⟨h1,h2,h3⟩:=I.pin p hp
  exact⟨h1,by rw[au (ne _ h2)];exact h2,h3⟩
 ·have st:∀{c:Addr}{v:HO},ObjOk X.prog X.w H s.heap c v→ObjOk X.prog X.w (upd H a (.frz ob o)) s.heap c v:=fun {c v} k=>k.stay (fun _ _ _ q=>q)
   (fun c' q=>by rw[au (fun z=>by rw[z,e] at q;exact no _ (Option.some.inj q))];exact q) fun c' xs q=>by rw[au (fun z=>by rw[z,e] at q;exact nt _ (Option.some.inj q))];exact q
  by_cases z:b=a
  ·subst z
   rw[show (some ob).getD _=ob from rfl,aF] at q
   cases q
   exact⟨KR,st hk⟩
  ·rw[au z] at q
   exact st (I.hok b v q)
def aE(a b:DS):DS:=fun ρ=>a ρ>>=fun o=>match o with | .nx ρ'=>b ρ' | .rt d=>M.ret (.rt d)
def cY:DS:=fun ρ=>M.ret (.nx ρ)
def bq(δ:DE):DS:=fun ρ=>δ ρ>>=fun d=>M.ret (.rt d)
def fi(δ:DE):DS:=fun ρ=>δ ρ>>=fun _=>M.ret (.nx ρ)
def bN(i:Nat)(δ:DE):DS:=fun ρ=>δ ρ>>=fun d=>M.ret (.nx (ρ.set i (some (.fz d))))
def gB(c:DT)(a b:DS):DS:=fun ρ=>c ρ>>=fun x=>if x then a ρ else b ρ
def DV(i:Nat)(a:DS):DS:=fun ρ=>a (frz i ρ)
def xD(i:Nat):DS:=fun ρ=>M.ret (.nx (ρ.set i (some (.ow (.lst [])))))
def Ax(ρ:a9)(i:Nat):Option (List D):=match ρ[i]? with
 |some (some (.ow (.lst ds)))=>some ds
 |_=>none
theorem qM{ρ:a9}{i:Nat}{ds:List D}(h:Ax ρ i=some ds):ρ[i]? =some (some (.ow (.lst ds))):=by
 unfold Ax at h
 split at h
 ·rename_i ds' e
  cases h
  exact e
 ·cases h
def mN(i:Nat)(δ:DE):DS:=fun ρ=>match Ax ρ i with
 |some ds=>δ ρ>>=fun d=>if ds.length<lim then M.ret (.nx (ρ.set i (some (.ow (.lst (ds++[d])))))) else M.stuck
 |none=>M.stuck
def DR(i:Nat)(δ:DE):DS:=fun ρ=>match Ax ρ i with
 |some ds=>δ ρ>>=fun d=>lstM d>>=fun es=>if ds.length+es.length≤lim then M.ret (.nx (ρ.set i (some (.ow (.lst (ds++es)))))) else M.stuck
 |none=>M.stuck
def forL(put:D→a9→Option a9)(body:DS):List D→DS
 |[],ρ=>M.ret (.nx ρ)
 |d::ds,ρ=>(match put d ρ with | none=>M.stuck | some ρ1=>body ρ1>>=fun o=>match o with | .nx ρ2=>forL put body ds ρ2 | .rt v=>M.ret (.rt v))
def putN(i:Nat):D→a9→Option a9:=fun d ρ=>some (ρ.set i (some (.fz d)))
def dH(put:D→a9→Option a9)(δi:DA)(body:DS):DS:=fun ρ=>δi ρ>>=fun ds=>forL put body ds ρ
section
variable{X:Cx}{Xw:Nat→Hp→Prop}{F₀ H₀:Hp}{st:Stmt}{rest:List Stmt}{τ τ':DS}{e:Expr}{δ:DE}{pos:Pos}
theorem bC:PSDs X Xw [] cY:=fun F₀ H₀=>PSs.weak F0 fun D σ H ⟨F,ρ,s,w⟩=>w σ F H s
theorem ag(h1:kR X Xw st τ)(h2:PSDs X Xw rest τ'):PSDs X Xw (st::rest) (aE τ τ'):=fun F₀ H₀=>PSs.weak (Dv (h1 F₀ H₀) (h2 F₀ H₀)) fun D σ H ⟨F,ρ,s,w⟩=>by
 refine⟨F,ρ,s,?_⟩
 unfold aE at w
 match τ ρ,w with
 |none,w=>exact w
 |some (.ok (.nx ρ')),w=>exact fun σ' F' H' s'=>⟨F',ρ',s',w⟩
 |some (.ok (.rt d)),w=>exact w
 |some (.ex n),w=>exact w
theorem aq(h1:kR X Xw st τ):PSDs X Xw [st] τ:=fun F₀ H₀=>F4 (h1 F₀ H₀)
theorem fB{i:Nat}(h:kR X Xw st τ):kR X Xw st (DV i τ):=fun F₀ H₀ pins sh σ H D I ⟨F,ρ,s,w⟩=>by
 rcases s.frz i (fun a=>(sh.heap.get? a).getD {cls:= .none,data:= .fields #[]}) with⟨a,o,ha,hc,hσ,s'⟩ | e
 ·refine h F₀ H₀ pins sh σ _ D (L3.Inv.refrz I ha ?_) ⟨_,_,s',w⟩
  generalize (ρ[i]?.elim (C.lst []) fun x=>x.elim (.lst []) fun y=>match y with | .ow c=>c | _=> .lst [])=c at hc
  cases c with
  |lst ds=>obtain⟨vs,rfl,_⟩:=hc;exact .inl rfl
  |dct ks ds=>obtain⟨vs,rfl,_⟩:=hc;exact .inr ⟨_,rfl, .inl ⟨_,rfl,rfl⟩⟩
  |dci ks ds=>obtain⟨vs,rfl,_⟩:=hc;exact .inr ⟨_,rfl, .inr ⟨_,rfl,rfl⟩⟩
 ·exact h F₀ H₀ pins sh σ H D I ⟨F,ρ,s,by unfold DV at w;rw[e] at w;exact w⟩
theorem aB(h:PD X Xw e δ):kR X Xw (.Return (some e) pos) (bq δ):=fun F₀ H₀=>PS.weak (Jm h) fun D σ H ⟨F,ρ,s,w⟩=>by
 refine⟨F,ρ,s.st,?_⟩
 unfold bq at w
 match δ ρ,w with
 |none,w=>exact w
 |some (.ok d),w=>exact fun v H' F' e' q=>w v F' H' (s.ext.trans e') q
 |some (.ex n),w=>exact fun F' H' e'=>w F' H' (s.ext.trans e')
theorem bP(h:PD X Xw e δ)(hs:swapsWith e none pos.line X.env=pure false:=by rfl):kR X Xw (.Expr e pos) (fi δ):=fun F₀ H₀=>PS.weak (mW h hs) fun D σ H ⟨F,ρ,s,w⟩=>by
 refine⟨F,ρ,s.st,?_⟩
 unfold fi at w
 match δ ρ,w with
 |none,w=>exact w
 |some (.ok d),w=>exact fun v H' F' e' q=>w σ F' H' (s.ext' e')
 |some (.ex n),w=>exact fun F' H' e'=>w F' H' (s.ext.trans e')
theorem ba{i:Nat}{x:Str}{pos':Pos}(hN:X.N.Nodup)(hi:X.N[i]? =some x)(hx:Loc X.env.scope x)(he:PD X Xw e δ)(hf:X.fn x=true∨X.env.scope.names.lookup x=some .local:=by first | exact .inl rfl | exact .inr rfl)
 (hs:swapsWithSole [.Name x pos'] e pos.line X.env=pure false:=by rfl):
 kR X Xw (.Assign [.Name x pos'] e pos) (bN i δ):=fun F₀ H₀=>PS.weak (sT he (bj hN hi hx hf) hs) fun D σ H ⟨F,ρ,s,w⟩=>by
 refine⟨F,ρ,s.st,?_⟩
 unfold bN at w
 match δ ρ,w with
 |none,w=>exact w
 |some (.ok d),w=>exact fun v H' F' e' q=>w _ F' H' ((s.ext' e').set q)
 |some (.ex n),w=>exact fun F' H' e'=>w F' H' (s.ext.trans e')
theorem iq{elt iter tg:Expr}{ifs:List Expr}{scope:Scope}{bp:Pos}{tn:List Str}{n:Nat}{δi:DA}{δt:DT}{δe:DE}{i:Nat}{x:Str}{pos':Pos}(hN:X.N.Nodup)(tU:X.N[i]? =some x)(hx:Loc X.env.scope x)
 (sc:CompSc X scope tn)(hn:tn.length=max n 1)(hc:X.calm=true)(hi:v7 X Xw tg iter δi)
 (hg:∀pins cl C fp s₂ H σ,zk (jk X scope tn pins cl C fp s₂ H) tg n σ)
 (ht:∀pins cl C fp s₂ H,kS (jk X scope tn pins cl C fp s₂ H) ifs δt)
 (he:∀pins cl C fp s₂ H,PD (jk X scope tn pins cl C fp s₂ H) (fun _ _=>False) elt δe)
 (hf:X.fn x=true∨X.env.scope.names.lookup x=some .local:=by first | exact .inl rfl | exact .inr rfl)
 (Q9:swapsWith (.ListComp elt [⟨tg,iter,ifs,0⟩] scope bp) (some (.Name x pos')) pos.line X.env=pure true:=by rfl)
 (hs:∀x,foldedSetIterable iter X.env x=pure x:=by intro _;rfl):
 kR X Xw (.Assign [.Name x pos'] (.ListComp elt [⟨tg,iter,ifs,0⟩] scope bp) pos) (bN i (aJ n δi δt δe)):=fun F₀ H₀ pins s σ H D I ⟨F,ρ,S,w⟩=>by
 obtain⟨cl,Ca,BH,JL⟩:=nq (scope:=scope) (env:=X.env) fun y hy hf=>I.ok.has y.1 (sc.frees y hy hf)
 have w':WP X.K Xw F H (aJ n δi δt δe ρ) (fun v H'=>D.nx (σ.set i (some v)) H'):=by
  have w:WPS X.K Xw F₀ H₀ (aJ n δi δt δe ρ>>=fun d=>M.ret (.nx (ρ.set i (some (.fz d))))) D:=w
  match aJ n δi δt δe ρ,w with
  |none,w=>exact w
  |some (.ok d),w=>exact fun v H' F' e' q=>w _ F' H' ((S.ext' e').set q)
  |some (.ex n),w=>exact fun F' H' e'=>w F' H' (S.ext.trans e')
 rw[exec_Assign_Name_used _ _ _ _ Q9]
 refine wpAny_bind (wpAny_standAt (wpAny_bind ?_))
 show wpAny _ X.A (do let _←comprehension (.ListComp elt [⟨tg,iter,ifs,0⟩] scope bp) scope X.env _ (newList []) false (eval iter X.env) (some (assign (.Name x pos') X.env))) _ _ s
 refine wpAny_bind (wpAny_mono (wpAny_comprehension_free (use:=some (assign (.Name x pos') X.env)) (Q:=fun _ s'=>SP X pins D .next s') rfl hs Ca sc.kind sc.names
  (t9 (RR:=fun acc C=>compPost (model X.prog X.w) X.A X.xe (some (assign (.Name x pos') X.env)) (fun _ s'=>SP X pins D .next s') acc C) sc hn hc hi hg ht he I S.st w' BH JL fun s1 C D' H' I1 q b=>?_)) (fun _ s' hq=>wpAny_pure (wpAny_pure hq)) fun _ _ e=>e)
 show wpAny _ X.A (assign (.Name x pos') X.env (.ref D')) _ _ _
 refine wpAny_assign_Name (rf I1 hN tU hx (v:= .ref D') rfl (fun s2 I2 ⟨a,sb,ha⟩=>?_) hf)
 have Qm:C≠a:=by
  rcases ha with z | z
  ·rw[z];exact b.nl
  ·exact Ne.symm (b.nc x a z)
 obtain⟨m,hm⟩:=b.ns
 have zV:s2.heap.Ns C m:=hm.sameBut sb Qm
 refine⟨m,zV,fun h' Bm=>⟨_,H',Inv.block I2 ⟨⟨m,zV⟩,b.free,b.nl,b.nw,b.nc,b.np⟩ Bm,q⟩⟩
theorem cg{c:Expr}{a b:List Stmt}{tc:DT}(hc:rl X Xw c tc)(ha:PSDs X Xw a τ)(hb:PSDs X Xw b τ'):kR X Xw (.If c a b pos) (gB tc τ τ'):=fun F₀ H₀=>PS.weak (LB hc (ha F₀ H₀) (hb F₀ H₀)) fun D σ H ⟨F,ρ,s,w⟩=>by
 refine⟨F,ρ,s.st,?_⟩
 unfold gB at w
 match tc ρ,w with
 |none,w=>exact w
 |some (.ok true),w=>exact fun H' F' e'=>⟨F',ρ,s.ext' e',w⟩
 |some (.ok false),w=>exact fun H' F' e'=>⟨F',ρ,s.ext' e',w⟩
 |some (.ex n),w=>exact fun F' H' e'=>w F' H' (s.ext.trans e')
theorem kA{i:Nat}{x:Str}{pos' eY:Pos}(hN:X.N.Nodup)(hi:X.N[i]? =some x)(hx:Loc X.env.scope x)(hf:X.fn x=true∨X.env.scope.names.lookup x=some .local:=by first | exact .inl rfl | exact .inr rfl):
 kR X Xw (.Assign [.Name x pos'] (.List [] eY) pos) (xD i):=fun F₀ H₀=>PS.weak (sT (Dr sM) (bj hN hi hx hf) rfl) fun D σ H ⟨F,ρ,s,w⟩=>by
 refine⟨Nat.zero_le _,fun p hp=>?_⟩
 exact w _ F _ (s.setNew (c₀:= .lst []) hp ⟨[],rfl,rfl,Nat.zero_le _⟩)
def Bp(K:W.Frag)(g:TG)(put:D→a9→Option a9):Prop:=∀(F₀ H₀ F H:Hp) (σ:St) (ρ ρ':a9) (d:D) (v:V) (Q:St→Hp→Prop),StOk K F₀ H₀ F H σ ρ→Den K F d v→put d ρ=some ρ'→
 (∀σ',StOk K F₀ H₀ F H σ' ρ'→Q σ' H)→g v σ H Q
theorem bU{K:W.Frag}{i:Nat}:Bp K (B7 i) (putN i):=fun F₀ H₀ F H σ ρ ρ' d v Q s q e k=>by
 cases e
 exact k _ (s.set q)
def RC(K:W.Frag)(Xw:Nat→Hp→Prop)(τ:DS):TS:=fun D σ H=>∃F₀ H₀,tS K Xw F₀ H₀ τ D σ H
theorem PSDs.ex{body:List Stmt}(h:PSDs X Xw body τ):PSs X body (RC X.K Xw τ):=fun pins s σ H D I ⟨F₀,H₀,w⟩=>h F₀ H₀ pins s σ H D I w
theorem b7{tg iter:Expr}{body:List Stmt}{δi:DA}{g:TG}{put:D→a9→Option a9}(hp:PassesOwn (model X.prog X.w) X.A X.env X.xe)(hc:X.calm=true)(hi:v7 X Xw tg iter δi)(hg:PG X tg g)(H0:Bp X.K g put)(hb:PSDs X Xw body τ)
 (hs:∀x,foldedSetIterable iter X.env x=pure x:=by intro _;rfl):kR X Xw (.For tg iter body [] pos) (dH put δi τ):=fun F₀ H₀=>PS.weak (Jl hp hc hi hg hb.ex hs) fun D σ H ⟨F,ρ,s,w⟩=>by
 refine⟨F,ρ,s.st,?_⟩
 unfold dH at w
 match δi ρ,w with
 |none,w=>exact w
 |some (.ex n),w=>exact fun F' H' e'=>w F' H' (s.ext.trans e')
 |some (.ok ds),w=>
  have w:WPS X.K Xw F₀ H₀ (forL put τ ds ρ) D:=w
  intro J H1 F1 e1 Pw
  obtain⟨s1,back⟩:=(s.ext' e1).rebase
  have hU:=z7 (s.ext' e1)
  generalize join F1 H₀=U at s1 back hU
  refine⟨fun i m σ H=>m=ds.length - i∧i≤ds.length∧∃F ρ,StOk X.K F1 U F H σ ρ∧WPS X.K Xw F₀ H₀ (forL put τ (ds.drop i) ρ) D,⟨ds.length,by simp,Nat.zero_le _,F1,ρ,s1,by simpa using w⟩,?_⟩
  rintro i m σ2 H2 ⟨rfl,Nq,F2,ρ2,s2,w2⟩
  by_cases dw:i<ds.length
  ·obtain⟨d,hd⟩:∃d,ds[i]? =some d:=⟨_,List.getElem?_eq_getElem dw⟩
   obtain⟨Nl,Ib⟩:=(Pw F2 H2 i s2.ext.ff s2.st.fh).1 d hd
   have ed:ds.drop i=d::ds.drop (i+1):=by
    obtain⟨hi,e⟩:=List.getElem?_eq_some_iff.mp hd
    rw[List.drop_eq_getElem_cons hi,e]
   rw[ed] at w2
   unfold forL at w2
   refine .inr ⟨Nl,fun σ' H'=>∃F' ρ',StOk X.K F1 U F' H' σ' ρ'∧WPS X.K Xw F₀ H₀ (forL put τ (ds.drop (i+1)) ρ') D,fun σ' H' ⟨F',ρ',h2,h3⟩=>⟨ds.length - (i+1),by omega,rfl,dw,F',ρ',h2,h3⟩,fun x H3 y3=>?_⟩
   obtain⟨F3,Ey,q3⟩:=Ib x H3 y3
   match Q6:put d ρ2,w2 with
   |none,w2=>exact w2.elim
   |some ρ3,w2=>
    refine H0 F1 U F3 H3 σ2 ρ2 ρ3 d x _ (s2.ext' Ey) q3 Q6 fun σ3 s3=>⟨F1,U,F3,ρ3,s3,?_⟩
    have w2:WPS X.K Xw F₀ H₀ (τ ρ3>>=fun o=>match o with | .nx ρ2=>forL put τ (ds.drop (i+1)) ρ2 | .rt v=>M.ret (.rt v)) D:=w2
    match τ ρ3,w2 with
    |none,w2=>exact w2
    |some (.ok (.nx ρ')),w2=>exact fun σ' F' H' s'=>⟨F',ρ',s',w2⟩
    |some (.ok (.rt d)),w2=>exact fun v F' H' e q=>w2 v F' H' (back _ _ e) q
    |some (.ex n),w2=>exact fun F' H' e=>w2 F' H' (back _ _ e)
  ·have hi:i=ds.length:=by omega
   subst hi
   rw[List.drop_length] at w2
   exact .inl ⟨(Pw F2 H2 ds.length s2.ext.ff s2.st.fh).2 (Nat.le_refl _),w2 σ2 F2 H2 (s2.unbase back hU)⟩
end
def gI(f:Int→Int→D):D→D→M D
 | .int i, .int j=>M.ret (f i j)
 |_,_=>M.stuck
def Kk(c:Int→Int→Bool)(f:Int→Int→D):D→D→M D
 | .int i, .int j=>if c i j then M.ret (f i j) else M.stuck
 |_,_=>M.stuck
theorem yQ{K:W.Frag}{gv:Int→Int→V}{gd:Int→Int→D}(h:∀F i j,Den K F (gd i j) (gv i j)):vZ K (AL gv) (gI gd):=fun Xw F H x y dx dy Q s hx hy w=>by
 unfold gI at w
 split at w
 ·rename_i i j
  exact⟨i,j,hx,hy,WP.now w s (h F i j)⟩
 ·exact w.elim
theorem xl{K:W.Frag}{gv:Int→Int→V}{gd:Int→Int→D}{c:Int→Int→Bool}{C:Int→Int→Prop}(h:∀F i j,Den K F (gd i j) (gv i j))(hc:∀i j,c i j=true→C i j):vZ K (rI C gv) (Kk c gd):=fun Xw F H x y dx dy Q s hx hy w=>by
 unfold Kk at w
 split at w
 ·rename_i i j
  split at w
  ·rename_i Mc
   exact⟨i,j,hx,hy,hc i j Mc,WP.now w s (h F i j)⟩
  ·exact w.elim
 ·exact w.elim
def dY:=gI fun i j=> .int (i+j)
def wB:=gI fun i j=> .int (i - j)
def g6:=Kk (fun i j=>decide ((-(2 ^ 64)<i∧i<2 ^ 64)∨(-(2 ^ 64)<j∧j<2 ^ 64))) fun i j=> .int (i*j)
def pJ:=Kk (fun _ j=>decide (0<j∧j<1073741824)) fun i j=> .int (i / j)
def jW:=Kk (fun _ j=>decide (0<j)) fun i j=> .int (i % j)
def OU:=gI fun i j=> .bl (decide (i≤j))
section
variable{X:Cx}{Xw:Nat→Hp→Prop}{a b:Expr}{δa δb:DE}{pos:Pos}
theorem dh(ha:PD X Xw a δa)(hb:PD X Xw b δb):PD X Xw (.BinOp a .Add b pos) (d2 dY δa δb):=oO IJ (yQ fun _ _ _=>rfl) ha hb
theorem sQ(ha:PD X Xw a δa)(hb:PD X Xw b δb):PD X Xw (.BinOp a .Sub b pos) (d2 wB δa δb):=oO IQ (yQ fun _ _ _=>rfl) ha hb
theorem jI(ha:PD X Xw a δa)(hb:PD X Xw b δb):PD X Xw (.BinOp a .Mult b pos) (d2 g6 δa δb):=oO IM (xl (fun _ _ _=>rfl) fun i j h=>by unfold CMul;exact of_decide_eq_true h) ha hb
theorem sP(ha:PD X Xw a δa)(hb:PD X Xw b δb):PD X Xw (.BinOp a .FloorDiv b pos) (d2 pJ δa δb):=oO Fy (xl (fun _ _ _=>rfl) fun i j h=>by unfold J1;exact of_decide_eq_true h) ha hb
theorem lB(ha:PD X Xw a δa)(hb:PD X Xw b δb):PD X Xw (.BinOp a .Mod b pos) (d2 jW δa δb):=oO IL (xl (fun _ _ _=>rfl) fun i j h=>of_decide_eq_true h) ha hb
def dq:D→D→M D
 | .lst ds, .int i=>match atI ds i with | some d=>M.ret d | none=>M.stuck
 |_,_=>M.stuck
def bt:D→D→M D
 | .tup ds, .int i=>match atI ds i with | some d=>M.ret d | none=>M.stuck
 |_,_=>M.stuck
def B5:D→D→M D
 | .scr ns, .int i=>match atI ns i with | some n=>M.ret (.int n) | none=>M.stuck
 |_,_=>M.stuck
def mJ:D→D→M D
 | .str x, .int i=>match atI x.cps.toList i with | some c=>M.ret (.str ⟨#[c]⟩) | none=>M.stuck
 |_,_=>M.stuck
theorem DenL.atI{K:W.Frag}{F:Hp}{ds:List D}{vs:List V}(h:DenL K F ds vs){i:Int}{d:D}(e:L2.atI ds i=some d):∃v,L2.atI vs i=some v∧Den K F d v:=by
 unfold L2.atI at e⊢
 rw[←h.len]
 cases q:Cw ds.length i with
 |none=>rw[q] at e;cases e
 |some j=>
  rw[q] at e
  exact h.get e
theorem FA{K:W.Frag}:vZ K (Js K) dq:=fun Xw F H x y dx dy Q s hx hy w=>by
 unfold dq at w
 split at w
 ·rename_i ds i
  obtain⟨a,vs,h1,h2,h3,h4⟩:=hx
  split at w
  ·rename_i d e
   obtain⟨v,e1,q⟩:=h3.atI e
   exact⟨a,vs,i,v,h1,hy,SqL.of (s _ _ h2),e1,WP.now w s q⟩
  ·exact w.elim
 ·exact w.elim
theorem FE{K:W.Frag}:vZ K (LK K) bt:=fun Xw F H x y dx dy Q s hx hy w=>by
 unfold bt at w
 split at w
 ·rename_i ds i
  obtain⟨a,vs,h1,h2,h3,h4⟩:=hx
  split at w
  ·rename_i d e
   obtain⟨v,e1,q⟩:=h3.atI e
   exact⟨a,vs,i,v,h1,hy,SqT.of (s _ _ h2),e1,WP.now w s q⟩
  ·exact w.elim
 ·exact w.elim
theorem FC{K:W.Frag}:vZ K (Js K) B5:=fun Xw F H x y dx dy Q s hx hy w=>by
 unfold B5 at w
 split at w
 ·rename_i ns i
  obtain⟨a,h1,h2,h3⟩:=hx
  split at w
  ·rename_i n e
   refine⟨a,_,i, .int n,h1,hy,Same.seq s h2,?_,WP.now w s rfl⟩
   unfold L2.atI at e⊢
   rw[List.length_map]
   cases q:Cw ns.length i with
   |none=>rw[q] at e;cases e
   |some j=>
    rw[q] at e
    have e:ns[j]? =some n:=e
    show (ns.map V.int)[j]? =some (.int n)
    rw[List.getElem?_map,e];rfl
  ·exact w.elim
 ·exact w.elim
theorem FD{K:W.Frag}:vZ K LJ mJ:=fun Xw F H x y dx dy Q s hx hy w=>by
 unfold mJ at w
 split at w
 ·rename_i z i
  obtain⟨h1,h2⟩:=hx
  split at w
  ·rename_i c e
   exact⟨z,i,c,h1,hy,by have:=c8;omega,e,WP.now w s ⟨rfl,by show 1≤lim;decide⟩⟩
  ·exact w.elim
 ·exact w.elim
theorem jH(ha:PD X Xw a δa)(hb:PD X Xw b δb)(hs:iP b:=by intro _ _;rfl):PD X Xw (.Subscript a b pos) (d2 dq δa δb):=yW yC FA ha hb hs
theorem IX(ha:PD X Xw a δa)(hb:PD X Xw b δb)(hs:iP b:=by intro _ _;rfl):PD X Xw (.Subscript a b pos) (d2 B5 δa δb):=yW yC FC ha hb hs
theorem bQ(ha:PD X Xw a δa)(hb:PD X Xw b δb)(hs:iP b:=by intro _ _;rfl):PD X Xw (.Subscript a b pos) (d2 bt δa δb):=yW Iz FE ha hb hs
theorem xr(ha:PD X Xw a δa)(hb:PD X Xw b δb)(hs:iP b:=by intro _ _;rfl):PD X Xw (.Subscript a b pos) (d2 mJ δa δb):=yW Iy FD ha hb hs
def uk:D→D→M D
 | .lst x, .lst y=>if x.length+y.length≤lim then M.ret (.lst (x++y)) else M.stuck
 |_,_=>M.stuck
theorem iL(x y:Str):(x++y).length=x.length+y.length:=by
 show (x.cps++y.cps).size=_
 simp[Str.length]
theorem FI(ha:PD X Xw a δa)(hb:PD X Xw b δb):PD X Xw (.BinOp a .Add b pos) (d2 uk δa δb):=oO IK (fun Xw F H x y dx dy Q s hx hy w=>by
 unfold uk at w
 split at w
 ·rename_i i j
  obtain⟨a,vs,h1,h2,h3,h4⟩:=hx
  obtain⟨a',vs',k1,k2,k3,k4⟩:=hy
  split at w
  ·rename_i hl
   have e1:=h3.len
   have e2:=k3.len
   have:=c8
   refine⟨a,a',vs,vs',h1,k1,s _ _ h2,s _ _ k2,by omega,fun p hp=>?_⟩
   exact WP.fin w (Ext.lay s hp) ⟨p,_,rfl,aF,DenL.mono (Ext.lay s hp).ff (h3.append k3),by rw[List.length_append];exact hl⟩
  ·exact w.elim
 ·exact w.elim) ha hb
end
end L3
namespace L3
open PySem PySem.Spec L2 SeqAt
open PyProof.Rows hiding St
def nB(f:D→D→Option Bool):List D→List D→Option Bool
 |[],[]=>some true
 |x::xs,y::ys=>match f x y,nB f xs ys with
  |some b,some r=>some (b&&r)
  |_,_=>none
 |[],_::_=>some false
 |_::_,[]=>some false
def wu:D→D→Option Bool
 | .non, .non=>some true
 | .bl a, .bl b=>some (a==b)
 | .bl a, .int j=>some ((if a then 1 else 0)==j)
 | .int i, .bl b=>some (i==(if b then 1 else 0))
 | .int i, .int j=>some (i==j)
 | .str x, .str y=>some (x==y)
 | .non, .bl _=>some false
 | .non, .int _=>some false
 | .non, .str _=>some false
 | .non, .lst _=>some false
 | .non, .tup _=>some false
 | .bl _, .non=>some false
 | .bl _, .str _=>some false
 | .bl _, .lst _=>some false
 | .bl _, .tup _=>some false
 | .int _, .non=>some false
 | .int _, .str _=>some false
 | .int _, .lst _=>some false
 | .int _, .tup _=>some false
 | .str _, .non=>some false
 | .str _, .bl _=>some false
 | .str _, .int _=>some false
 | .str _, .lst _=>some false
 | .str _, .tup _=>some false
 | .lst _, .non=>some false
 | .lst _, .bl _=>some false
 | .lst _, .int _=>some false
 | .lst _, .str _=>some false
 | .lst _, .tup _=>some false
 | .tup _, .non=>some false
 | .tup _, .bl _=>some false
 | .tup _, .int _=>some false
 | .tup _, .str _=>some false
 | .tup _, .lst _=>some false
 |_,_=>none
def kQ:Nat→D→D→Option Bool
 |n+1, .tup xs, .tup ys=>nB (kQ n) xs ys
 |n+1, .lst xs, .lst ys=>nB (kQ n) xs ys
 |n+1, .scr xs, .lst ys=>nB (kQ n) (xs.map D.int) ys
 |_,x,y=>wu x y
structure EqAll (A:Around) (s:Shared) (u v:Value) (b:Bool):Prop where
 rc:RcAt A s u v b
 ne:RcNeAt A s u v (!b)
 eq:EqAt A s u v b
section
variable{X:Cx}{pins:List (Addr×Obj)}{σ:St}{F H:Hp}{s:Shared}{A:Around}
theorem eA(I:Inv X pins σ H s)(hs:Same F H){ds:List D}{v:V}{u:Value}(h:Den X.K F (.tup ds) v)(r:RelV v u):∃a vs aD,u= .ref a∧v= .ref a∧F a=some (.tup vs)∧DenL X.K F ds vs∧Vals vs aD∧s.heap.IsTuple a aD.toArray:=by
 obtain⟨a,vs,rfl,h2,h3,h4⟩:=h
 obtain⟨aD,r1,p1,_⟩:=I.tuple (SqT.of (hs _ _ h2))
 exact⟨a,vs,aD,r,rfl,h2,h3,r1,p1⟩
theorem d3(I:Inv X pins σ H s)(hs:Same F H){ds:List D}{v:V}{u:Value}(h:Den X.K F (.lst ds) v)(r:RelV v u):∃a vs aD,u= .ref a∧v= .ref a∧F a=some (.lst vs)∧DenL X.K F ds vs∧Vals vs aD∧s.heap.IsList a aD.toArray:=by
 obtain⟨a,vs,rfl,h2,h3,h4⟩:=h
 obtain⟨aD,r1,p1,_⟩:=I.list (SqL.of (hs _ _ h2))
 exact⟨a,vs,aD,r,rfl,h2,h3,r1,p1.isList⟩
theorem JA(I:Inv X pins σ H s)(hs:Same F H){ns:List Int}{v:V}{u:Value}(h:Den X.K F (.scr ns) v)(r:RelV v u):∃a aD,u= .ref a∧v= .ref a∧SqL X.K F a (ns.map V.int)∧Vals (ns.map V.int) aD∧s.heap.IsList a aD.toArray:=by
 obtain⟨a,rfl,h2,h3⟩:=h
 obtain⟨aD,r1,p1,_⟩:=I.list (Same.seq hs h2)
 exact⟨a,aD,r,rfl,h2,r1,p1.isList⟩
theorem uf(I:Inv X pins σ H s)(hs:Same F H)(hu:A.units<cLine){x y:D}{v w:V}{u t:Value}{b:Bool}(hx:Den X.K F x v)(hy:Den X.K F y w)(rx:RelV v u)(ry:RelV w t)(e:wu x y=some b):EqAll A s u t b:=by
 cases x with
 |non=>
  cases y with
  |non=>
   cases e
   cases (show _=_ from hx)
   cases rx
   cases (show _=_ from hy)
   cases ry
   exact⟨RcAt.none_none,RcNeAt.none_none,EqAt.same _⟩
  |bl d=>
   cases e
   cases (show _=_ from hx)
   cases rx
   cases (show _=_ from hy)
   cases ry
   exact⟨RcAt.none_bool _,RcNeAt.none_bool _,EqAt.none_bool _⟩
  |int d=>
   cases e
   cases (show _=_ from hx)
   cases rx
   cases (show _=_ from hy)
   obtain⟨t2,rfl⟩:=ry
   exact⟨RcAt.none_int _ _,RcNeAt.none_int _ _,EqAt.none_int _ _⟩
  |str d=>
   cases e
   cases (show _=_ from hx)
   cases rx
   cases (show _=_ from hy.1)
   obtain⟨t2,rfl⟩:=ry
   exact⟨RcAt.none_str _ _,RcNeAt.none_str _ _,EqAt.none_str _ _⟩
  |raw d=>cases e
  |dct _ _=>cases e
  |dci _ _=>cases e
  |exc d=>cases e
  |scr d=>cases e
  |tup d=>
   cases e
   cases (show _=_ from hx)
   cases rx
   obtain⟨a2,_,_,rfl,_,_,_,_,p2⟩:=eA I hs hy ry
   exact⟨RcAt.none_tuple p2 hu,RcNeAt.none_tuple p2 hu,EqAt.none_tuple p2 hu⟩
  |lst d=>
   cases e
   cases (show _=_ from hx)
   cases rx
   obtain⟨a2,_,_,rfl,_,_,_,_,p2⟩:=d3 I hs hy ry
   exact⟨RcAt.none_list p2 hu,RcNeAt.none_list p2 hu,EqAt.none_list p2 hu⟩
 |bl c=>
  cases y with
  |non=>
   cases e
   cases (show _=_ from hx)
   cases rx
   cases (show _=_ from hy)
   cases ry
   exact⟨RcAt.bool_none _,RcNeAt.bool_none _,EqAt.bool_none _⟩
  |bl d=>
   cases e
   cases (show _=_ from hx)
   cases rx
   cases (show _=_ from hy)
   cases ry
   exact⟨RcAt.bool_bool _ _,RcNeAt.bool_bool _ _,EqAt.bool_bool _ _⟩
  |int d=>
   cases e
   cases (show _=_ from hx)
   cases rx
   cases (show _=_ from hy)
   obtain⟨t2,rfl⟩:=ry
   exact⟨RcAt.bool_int _ _ _,RcNeAt.bool_int _ _ _,EqAt.bool_int _ _ _⟩
  |str d=>
   cases e
   cases (show _=_ from hx)
   cases rx
   cases (show _=_ from hy.1)
   obtain⟨t2,rfl⟩:=ry
   exact⟨RcAt.bool_str _ _ _,RcNeAt.bool_str _ _ _,EqAt.bool_str _ _ _⟩
  |raw d=>cases e
  |dct _ _=>cases e
  |dci _ _=>cases e
  |exc d=>cases e
  |scr d=>cases e
  |tup d=>
   cases e
   cases (show _=_ from hx)
   cases rx
   obtain⟨a2,_,_,rfl,_,_,_,_,p2⟩:=eA I hs hy ry
   exact⟨RcAt.bool_tuple _ p2 hu,RcNeAt.bool_tuple _ p2 hu,EqAt.bool_tuple _ p2 hu⟩
  |lst d=>
   cases e
   cases (show _=_ from hx)
   cases rx
   obtain⟨a2,_,_,rfl,_,_,_,_,p2⟩:=d3 I hs hy ry
   exact⟨RcAt.bool_list _ p2 hu,RcNeAt.bool_list _ p2 hu,EqAt.bool_list _ p2 hu⟩
 |int c=>
  cases y with
  |non=>
   cases e
   cases (show _=_ from hx)
   obtain⟨t1,rfl⟩:=rx
   cases (show _=_ from hy)
   cases ry
   exact⟨RcAt.int_none _ _,RcNeAt.int_none _ _,EqAt.int_none _ _⟩
  |bl d=>
   cases e
   cases (show _=_ from hx)
   obtain⟨t1,rfl⟩:=rx
   cases (show _=_ from hy)
   cases ry
   exact⟨RcAt.int_bool _ _ _,RcNeAt.int_bool _ _ _,EqAt.int_bool _ _ _⟩
  |int d=>
   cases e
   cases (show _=_ from hx)
   obtain⟨t1,rfl⟩:=rx
   cases (show _=_ from hy)
   obtain⟨t2,rfl⟩:=ry
   exact⟨RcAt.int_int _ _ _ _,RcNeAt.int_int _ _ _ _,EqAt.int_int _ _ _ _⟩
  |str d=>
   cases e
   cases (show _=_ from hx)
   obtain⟨t1,rfl⟩:=rx
   cases (show _=_ from hy.1)
   obtain⟨t2,rfl⟩:=ry
   exact⟨RcAt.int_str _ _ _ _,RcNeAt.int_str _ _ _ _,EqAt.int_str _ _ _ _⟩
  |raw d=>cases e
  |dct _ _=>cases e
  |dci _ _=>cases e
  |exc d=>cases e
  |scr d=>cases e
  |tup d=>
   cases e
   cases (show _=_ from hx)
   obtain⟨t1,rfl⟩:=rx
   obtain⟨a2,_,_,rfl,_,_,_,_,p2⟩:=eA I hs hy ry
   exact⟨RcAt.int_tuple _ _ p2 hu,RcNeAt.int_tuple _ _ p2 hu,EqAt.int_tuple _ _ p2 hu⟩
  |lst d=>
   cases e
   cases (show _=_ from hx)
   obtain⟨t1,rfl⟩:=rx
   obtain⟨a2,_,_,rfl,_,_,_,_,p2⟩:=d3 I hs hy ry
   exact⟨RcAt.int_list _ _ p2 hu,RcNeAt.int_list _ _ p2 hu,EqAt.int_list _ _ p2 hu⟩
 |str c=>
  cases y with
  |non=>
   cases e
   cases (show _=_ from hx.1)
   obtain⟨t1,rfl⟩:=rx
   cases (show _=_ from hy)
   cases ry
   exact⟨RcAt.str_none _ _,RcNeAt.str_none _ _,EqAt.str_none _ _⟩
  |bl d=>
   cases e
   cases (show _=_ from hx.1)
   obtain⟨t1,rfl⟩:=rx
   cases (show _=_ from hy)
   cases ry
   exact⟨RcAt.str_bool _ _ _,RcNeAt.str_bool _ _ _,EqAt.str_bool _ _ _⟩
  |int d=>
   cases e
   cases (show _=_ from hx.1)
   obtain⟨t1,rfl⟩:=rx
   cases (show _=_ from hy)
   obtain⟨t2,rfl⟩:=ry
   exact⟨RcAt.str_int _ _ _ _,RcNeAt.str_int _ _ _ _,EqAt.str_int _ _ _ _⟩
  |str d=>
   cases e
   cases (show _=_ from hx.1)
   obtain⟨t1,rfl⟩:=rx
   cases (show _=_ from hy.1)
   obtain⟨t2,rfl⟩:=ry
   exact⟨RcAt.str_str _ _ _ _,RcNeAt.str_str _ _ _ _,EqAt.str_str _ _ _ _⟩
  |raw d=>cases e
  |dct _ _=>cases e
  |dci _ _=>cases e
  |exc d=>cases e
  |scr d=>cases e
  |tup d=>
   cases e
   cases (show _=_ from hx.1)
   obtain⟨t1,rfl⟩:=rx
   obtain⟨a2,_,_,rfl,_,_,_,_,p2⟩:=eA I hs hy ry
   exact⟨RcAt.str_tuple _ _ p2 hu,RcNeAt.str_tuple _ _ p2 hu,EqAt.str_tuple _ _ p2 hu⟩
  |lst d=>
   cases e
   cases (show _=_ from hx.1)
   obtain⟨t1,rfl⟩:=rx
   obtain⟨a2,_,_,rfl,_,_,_,_,p2⟩:=d3 I hs hy ry
   exact⟨RcAt.str_list _ _ p2 hu,RcNeAt.str_list _ _ p2 hu,EqAt.str_list _ _ p2 hu⟩
 |raw _=>cases y<;>cases e
 |dct _ _=>cases y<;>cases e
 |dci _ _=>cases y<;>cases e
 |exc _=>cases y<;>cases e
 |scr c=>cases y<;>cases e
 |tup c=>
  cases y with
  |non=>
   cases e
   obtain⟨a1,_,_,rfl,_,_,_,_,p1⟩:=eA I hs hx rx
   cases (show _=_ from hy)
   cases ry
   exact⟨RcAt.tuple_none p1 hu,RcNeAt.tuple_none p1 hu,EqAt.tuple_none p1 hu⟩
  |bl d=>
   cases e
   obtain⟨a1,_,_,rfl,_,_,_,_,p1⟩:=eA I hs hx rx
   cases (show _=_ from hy)
   cases ry
   exact⟨RcAt.tuple_bool _ p1 hu,RcNeAt.tuple_bool _ p1 hu,EqAt.tuple_bool _ p1 hu⟩
  |int d=>
   cases e
   obtain⟨a1,_,_,rfl,_,_,_,_,p1⟩:=eA I hs hx rx
   cases (show _=_ from hy)
   obtain⟨t2,rfl⟩:=ry
   exact⟨RcAt.tuple_int _ _ p1 hu,RcNeAt.tuple_int _ _ p1 hu,EqAt.tuple_int _ _ p1 hu⟩
  |str d=>
   cases e
   obtain⟨a1,_,_,rfl,_,_,_,_,p1⟩:=eA I hs hx rx
   cases (show _=_ from hy.1)
   obtain⟨t2,rfl⟩:=ry
   exact⟨RcAt.tuple_str _ _ p1 hu,RcNeAt.tuple_str _ _ p1 hu,EqAt.tuple_str _ _ p1 hu⟩
  |raw d=>cases e
  |dct _ _=>cases e
  |dci _ _=>cases e
  |exc d=>cases e
  |scr d=>cases e
  |tup d=>cases e
  |lst d=>
   cases e
   obtain⟨a1,_,_,rfl,_,_,_,_,p1⟩:=eA I hs hx rx
   obtain⟨a2,_,_,rfl,_,_,_,_,p2⟩:=d3 I hs hy ry
   exact⟨RcAt.tuple_list p1 p2 hu,RcNeAt.tuple_list p1 p2 hu,EqAt.tuple_list p1 p2 hu⟩
 |lst c=>
  cases y with
  |non=>
   cases e
   obtain⟨a1,_,_,rfl,_,_,_,_,p1⟩:=d3 I hs hx rx
   cases (show _=_ from hy)
   cases ry
   exact⟨RcAt.list_none p1 hu,RcNeAt.list_none p1 hu,EqAt.list_none p1 hu⟩
  |bl d=>
   cases e
   obtain⟨a1,_,_,rfl,_,_,_,_,p1⟩:=d3 I hs hx rx
   cases (show _=_ from hy)
   cases ry
   exact⟨RcAt.list_bool _ p1 hu,RcNeAt.list_bool _ p1 hu,EqAt.list_bool _ p1 hu⟩
  |int d=>
   cases e
   obtain⟨a1,_,_,rfl,_,_,_,_,p1⟩:=d3 I hs hx rx
   cases (show _=_ from hy)
   obtain⟨t2,rfl⟩:=ry
   exact⟨RcAt.list_int _ _ p1 hu,RcNeAt.list_int _ _ p1 hu,EqAt.list_int _ _ p1 hu⟩
  |str d=>
   cases e
   obtain⟨a1,_,_,rfl,_,_,_,_,p1⟩:=d3 I hs hx rx
   cases (show _=_ from hy.1)
   obtain⟨t2,rfl⟩:=ry
   exact⟨RcAt.list_str _ _ p1 hu,RcNeAt.list_str _ _ p1 hu,EqAt.list_str _ _ p1 hu⟩
  |raw d=>cases e
  |dct _ _=>cases e
  |dci _ _=>cases e
  |exc d=>cases e
  |scr d=>cases e
  |tup d=>
   cases e
   obtain⟨a1,_,_,rfl,_,_,_,_,p1⟩:=d3 I hs hx rx
   obtain⟨a2,_,_,rfl,_,_,_,_,p2⟩:=eA I hs hy ry
   exact⟨RcAt.list_tuple p1 p2 hu,RcNeAt.list_tuple p1 p2 hu,EqAt.list_tuple p1 p2 hu⟩
  |lst d=>cases e
end
def ev(f:D→D→Option Bool)(xs ys:List D)(j:Nat):Bool:=match xs[j]?,ys[j]? with
 |some x,some y=>(f x y).getD false
 |_,_=>false
theorem ue{f:D→D→Option Bool}:∀{xs ys:List D}{b:Bool},nB f xs ys=some b→∀(j:Nat) (x y:D),xs[j]? =some x→ys[j]? =some y→∃c,f x y=some c
 |[],_,_,_,_,_,_,h,_=>by simp at h
 |_::_,[],_,_,_,_,_,_,h=>by simp at h
 |x::xs,y::ys,b,e,j,x',y',hx,hy=>by
  unfold nB at e
  split at e
  ·rename_i b1 r1 e1 e2
   cases j with
   |zero=>simp at hx hy;subst hx hy;exact⟨_,e1⟩
   |succ j=>exact ue e2 j x' y' (by simpa using hx) (by simpa using hy)
  ·cases e
theorem rP{f:D→D→Option Bool}:∀{xs ys:List D}{b:Bool},nB f xs ys=some b→b=((List.range (min xs.length ys.length)).all (ev f xs ys)&&xs.length==ys.length)
 |[],[],_,e=>by cases e;rfl
 |[],_::_,_,e=>by cases e;simp
 |_::_,[],_,e=>by cases e;simp
 |x::xs,y::ys,b,e=>by
  unfold nB at e
  split at e
  ·rename_i b1 r1 e1 e2
   cases e
   have h:=rP e2
   rw[List.length_cons,List.length_cons,Nat.succ_min_succ,List.range_succ_eq_map,List.all_cons,List.all_map]
   have e0:ev f (x::xs) (y::ys) 0=b1:=by unfold ev;simp[e1]
   have e3:(ev f (x::xs) (y::ys)∘Nat.succ)=ev f xs ys:=by funext j;simp[ev,Function.comp]
   have e4:(xs.length+1==ys.length+1)=(xs.length==ys.length):=by simp
   rw[e0,e3,e4,h,Bool.and_assoc]
  ·cases e
section
variable{X:Cx}{pins:List (Addr×Obj)}{σ:St}{F H:Hp}{s:Shared}
theorem jR{f:D→D→Option Bool}(h:∀x y v b,Den X.K F x v→Den X.K F y v→f x y=some b→b=true):∀{xs ys:List D}{vs:List V}{b:Bool},DenL X.K F xs vs→DenL X.K F ys vs→nB f xs ys=some b→b=true
 |[],[],_,_,_,_,e=>by cases e;rfl
 |[],_::_,_,_,h1,h2,_=>by
  cases (show _=_ from h1)
  obtain⟨v,r,z,_⟩:=h2
  cases z
 |_::_,[],_,_,h1,h2,_=>by
  cases (show _=_ from h2)
  obtain⟨v,r,z,_⟩:=h1
  cases z
 |x::xs,y::ys,_,b,⟨v,r,e1,q1,q2⟩,⟨v',r',e2,q3,q4⟩,e=>by
  subst e1
  cases e2
  unfold nB at e
  split at e
  ·rename_i b1 r1 f1 f2
   cases e
   rw[h x y v b1 q1 q3 f1,jR h q2 q4 f2]
   rfl
  ·cases e
theorem qg{x y:D}{v:V}{b:Bool}(hx:Den X.K F x v)(hy:Den X.K F y v)(e:wu x y=some b):b=true:=by
 cases x<;>cases y<;>first
  |(cases e;done)
  |(cases e;cases (show _=_ from hx);cases (show _=_ from hy);first | rfl | simp)
  |(cases e;cases (show _=_ from hx.1);cases (show _=_ from hy.1);simp)
  |(cases e;cases (show _=_ from hx);cases (show _=_ from hy.1))
  |(cases e;cases (show _=_ from hx.1);cases (show _=_ from hy))
  |(cases e;obtain⟨_,_,z,_⟩:=hx;subst z;cases (show _=_ from hy);done)
  |(cases e;obtain⟨_,_,z,_⟩:=hx;subst z;cases (show _=_ from hy.1);done)
  |(cases e;obtain⟨_,z,_⟩:=hx;subst z;cases (show _=_ from hy);done)
  |(cases e;obtain⟨_,z,_⟩:=hx;subst z;cases (show _=_ from hy.1);done)
  |(cases e;obtain⟨_,_,z,_⟩:=hy;subst z;cases (show _=_ from hx);done)
  |(cases e;obtain⟨_,_,z,_⟩:=hy;subst z;cases (show _=_ from hx.1);done)
  |(cases e;obtain⟨_,z,_⟩:=hy;subst z;cases (show _=_ from hx);done)
  |(cases e;obtain⟨_,z,_⟩:=hy;subst z;cases (show _=_ from hx.1);done)
  |(cases e;obtain⟨_,_,z,h2,_⟩:=hx;obtain⟨_,_,z',OV,_⟩:=hy;subst z;cases z';rw[h2] at OV;cases OV;done)
  |(cases e;cases (show _=_ from hx);cases (show _=_ from hy);done)
  |(cases e;cases (show _=_ from hx.1);cases (show _=_ from hy.1);done)
theorem jQ(I:Inv X pins σ H s)(hs:Same F H):∀(n:Nat) (x y:D) (v:V) (b:Bool),Den X.K F x v→Den X.K F y v→kQ n x y=some b→b=true
 |0,x,y,v,b,hx,hy,e=>qg hx hy (by unfold kQ at e;exact e)
 |n+1,x,y,v,b,hx,hy,e=>by
  unfold kQ at e
  split at e
  ·rename_i xs ys _
   obtain⟨a,vs,rfl,h2,h3,_⟩:=hx
   obtain⟨a',vs',z,k2,k3,_⟩:=hy
   cases z
   rw[h2] at k2
   cases k2
   exact jR (jQ I hs _) h3 k3 (by simpa using e)
  ·rename_i xs ys _
   obtain⟨a,vs,rfl,h2,h3,_⟩:=hx
   obtain⟨a',vs',z,k2,k3,_⟩:=hy
   cases z
   rw[h2] at k2
   cases k2
   exact jR (jQ I hs _) h3 k3 (by simpa using e)
  ·rename_i xs ys _
   obtain⟨a,rfl,h2,_⟩:=hx
   obtain⟨a',vs',z,k2,k3,_⟩:=hy
   cases z
   have hv:=I.list_inj (Same.seq hs h2) (SqL.of (hs _ _ k2))
   rw[←hv] at k3
   exact jR (jQ I hs _) (DenL.ints xs) k3 (by simpa using e)
  ·exact qg hx hy e
theorem Vals.at{vs:List V}{aD:List Value}(r:Vals vs aD){j:Nat}(h:j<aD.toArray.size):∃v,vs[j]? =some v∧RelV v aD.toArray[j]:=by
 have hl:=r.length
 have hj:j<vs.length:=by rw[List.size_toArray] at h;omega
 obtain⟨u,e1,e2⟩:=r.get (List.getElem?_eq_getElem hj)
 refine⟨vs[j],List.getElem?_eq_getElem hj,?_⟩
 have:aD.toArray[j]=u:=by
  have:=(List.getElem?_eq_some_iff.mp e1).2
  simpa using this
 rw[this]
 exact e2
theorem mP{f:D→D→Option Bool}{A:Around}{xs ys:List D}{vs ws:List V}{aD eV:List Value}{b:Bool}(h1:DenL X.K F xs vs)(h2:DenL X.K F ys ws)(r1:Vals vs aD)(r2:Vals ws eV)(e:nB f xs ys=some b)
 (ih:∀x y v w u t c,Den X.K F x v→Den X.K F y w→RelV v u→RelV w t→f x y=some c→EqAt A s u t c):
 ∀j (k1:j<aD.toArray.size) (k2:j<eV.toArray.size),EqAt A s aD.toArray[j] eV.toArray[j] (ev f xs ys j):=fun j k1 k2=>by
 obtain⟨v,e1,q1⟩:=Vals.at r1 k1
 obtain⟨w,e2,q2⟩:=Vals.at r2 k2
 obtain⟨x,e3,q3⟩:=h1.at e1
 obtain⟨y,e4,q4⟩:=h2.at e2
 obtain⟨c,hc⟩:=ue e j x y e3 e4
 have:ev f xs ys j=c:=by unfold ev;rw[e3,e4];simp[hc]
 rw[this]
 exact ih x y v w _ _ c q3 q4 q1 q2 hc
theorem qA{f:D→D→Option Bool}{A:Around}(hu:A.units<cLine){xs ys:List D}{vs ws:List V}{aD eV:List Value}{b:Bool}{a a':Addr}(h1:DenL X.K F xs vs)(h2:DenL X.K F ys ws)(r1:Vals vs aD)(r2:Vals ws eV)
 (p1:s.heap.IsList a aD.toArray)(p2:s.heap.IsList a' eV.toArray)(e:nB f xs ys=some b)(hr:a=a'→b=true)
 (ih:∀x y v w u t c,Den X.K F x v→Den X.K F y w→RelV v u→RelV w t→f x y=some c→EqAt A.in1 s u t c):EqAll A s (.ref a) (.ref a') b:=by
 have l1:=h1.len
 have l2:=h2.len
 have l3:=r1.length
 have l4:=r2.length
 have hv:=rP e
 have core:RcAt A s (.ref a) (.ref a') b∧RcNeAt A s (.ref a) (.ref a') (!b):=by
  by_cases hl:xs.length=ys.length
  ·have hsz:aD.toArray.size=eV.toArray.size:=by rw[List.size_toArray,List.size_toArray];omega
   have hb:b=(List.range aD.toArray.size).all (ev f xs ys):=by
    rw[hv,hl,Nat.min_self,beq_self_eq_true,Bool.and_true]
    congr 2
    rw[List.size_toArray];omega
   rw[hb]
   exact⟨RcAt.lists p1 p2 hsz hu (mP h1 h2 r1 r2 e ih),RcNeAt.lists p1 p2 hsz hu (mP h1 h2 r1 r2 e ih)⟩
  ·have hb:b=false:=by rw[hv,show (xs.length==ys.length)=false from by simpa using hl,Bool.and_false]
   have hsz:(aD.toArray.size !=eV.toArray.size)=true:=by
    rw[List.size_toArray,List.size_toArray]
    simp
    omega
   rw[hb]
   exact⟨RcAt.lists_lengths p1 p2 hsz hu,RcNeAt.lists_lengths p1 p2 hsz hu⟩
 refine⟨core.1,core.2,?_⟩
 by_cases hq:a=a'
 ·rw[hr hq]
  subst hq
  exact EqAt.same _
 ·exact EqAt.of_refs hq core.1
theorem xP{f:D→D→Option Bool}{A:Around}(hu:A.units<cLine){xs ys:List D}{vs ws:List V}{aD eV:List Value}{b:Bool}{a a':Addr}(h1:DenL X.K F xs vs)(h2:DenL X.K F ys ws)(r1:Vals vs aD)(r2:Vals ws eV)
 (p1:s.heap.IsTuple a aD.toArray)(p2:s.heap.IsTuple a' eV.toArray)(e:nB f xs ys=some b)(hr:a=a'→b=true)
 (ih:∀x y v w u t c,Den X.K F x v→Den X.K F y w→RelV v u→RelV w t→f x y=some c→EqAt A.in1 s u t c):EqAll A s (.ref a) (.ref a') b:=by
 have l1:=h1.len
 have l2:=h2.len
 have l3:=r1.length
 have l4:=r2.length
 have hb:b=((List.range (min aD.toArray.size eV.toArray.size)).all (ev f xs ys)&&aD.toArray.size==eV.toArray.size):=by
  rw[rP e,List.size_toArray,List.size_toArray,←l3,←l4,←l1,←l2]
 have core:RcAt A s (.ref a) (.ref a') b∧RcNeAt A s (.ref a) (.ref a') (!b):=by
  rw[hb]
  exact⟨RcAt.tuples p1 p2 hu (mP h1 h2 r1 r2 e ih),RcNeAt.tuples p1 p2 hu (mP h1 h2 r1 r2 e ih)⟩
 refine⟨core.1,core.2,?_⟩
 by_cases hq:a=a'
 ·rw[hr hq]
  subst hq
  exact EqAt.same _
 ·exact EqAt.of_refs hq core.1
theorem rQ(I:Inv X pins σ H s)(hs:Same F H):∀(n:Nat) (A:Around) (x y:D) (v w:V) (u t:Value) (b:Bool),A.units+n<cLine→Den X.K F x v→Den X.K F y w→RelV v u→RelV w t→kQ n x y=some b→EqAll A s u t b
 |0,A,x,y,v,w,u,t,b,hu,hx,hy,rx,ry,e=>uf I hs (by omega) hx hy rx ry (by unfold kQ at e;exact e)
 |n+1,A,x,y,v,w,u,t,b,hu,hx,hy,rx,ry,e=>by
  have Mm:A.units<cLine:=by omega
  have Rg:A.in1.units+n<cLine:=by show A.units+1+n<cLine;omega
  have hrefl:=jQ (F:=F) I hs (n+1) x y
  have ih:∀x y v w u t c,Den X.K F x v→Den X.K F y w→RelV v u→RelV w t→kQ n x y=some c→EqAt A.in1 s u t c:=fun x y v w u t c q1 q2 q3 q4 q5=>(rQ I hs n A.in1 x y v w u t c Rg q1 q2 q3 q4 q5).eq
  have e0:=e
  unfold kQ at e
  split at e
  ·rename_i xs ys heq
   cases heq
   obtain⟨a,vs,aD,rfl,Kg,h2,h3,r1,p1⟩:=eA I hs hx rx
   obtain⟨a',vs',its',rfl,Kh,k2,k3,LD,Lu⟩:=eA I hs hy ry
   exact xP Mm h3 k3 r1 LD p1 Lu e (fun z=>by subst z;exact hrefl v b hx (by rw[Kg,←Kh];exact hy) e0) ih
  ·rename_i xs ys heq
   cases heq
   obtain⟨a,vs,aD,rfl,Kg,h2,h3,r1,p1⟩:=d3 I hs hx rx
   obtain⟨a',vs',its',rfl,Kh,k2,k3,LD,Lu⟩:=d3 I hs hy ry
   exact qA Mm h3 k3 r1 LD p1 Lu e (fun z=>by subst z;exact hrefl v b hx (by rw[Kg,←Kh];exact hy) e0) ih
  ·rename_i xs ys heq
   cases heq
   obtain⟨a,aD,rfl,Kg,h2,r1,p1⟩:=JA I hs hx rx
   obtain⟨a',vs',its',rfl,Kh,k2,k3,LD,Lu⟩:=d3 I hs hy ry
   exact qA Mm (DenL.ints _) k3 r1 LD p1 Lu e (fun z=>by subst z;exact hrefl v b hx (by rw[Kg,←Kh];exact hy) e0) ih
  ·exact uf I hs Mm hx hy rx ry e
end
def nE(x y:D):M D:=match kQ 6 x y with | some b=>M.ret (.bl b) | none=>M.stuck
def jB(x y:D):M D:=match kQ 6 x y with | some b=>M.ret (.bl (!b)) | none=>M.stuck
def LG(K:W.Frag):R2:=fun x y H Q=>∃F dx dy b,Same F H∧Den K F dx x∧Den K F dy y∧kQ 6 dx dy=some b∧Q (.bl b) H
def LL(K:W.Frag):R2:=fun x y H Q=>∃F dx dy b,Same F H∧Den K F dx x∧Den K F dy y∧kQ 6 dx dy=some b∧Q (.bl (!b)) H
section
variable{X:Cx}{Xw:Nat→Hp→Prop}{a b:Expr}{δa δb:DE}{pos:Pos}
theorem C6(hu:X.A.units+64<cLine):OpR X (compareOp .Eq) (LG X.K):=by
 intro pins s σ H x y v u Q I rx ry h
 obtain⟨F,dx,dy,b,hs,hx,hy,e,q⟩:=h
 exact(rQ I hs 6 X.A dx dy x y v u b (by omega) hx hy rx ry e).rc _ _ _ _ ⟨.bl b,H,I,rfl,q⟩
theorem IP(hu:X.A.units+64<cLine):OpR X (compareOp .NotEq) (LL X.K):=by
 intro pins s σ H x y v u Q I rx ry h
 obtain⟨F,dx,dy,b,hs,hx,hy,e,q⟩:=h
 exact(rQ I hs 6 X.A dx dy x y v u b (by omega) hx hy rx ry e).ne _ _ _ _ ⟨.bl (!b),H,I,rfl,q⟩
theorem C7{K:W.Frag}:vZ K (LG K) nE:=fun Xw F H x y dx dy Q s hx hy w=>by
 unfold nE at w
 split at w
 ·rename_i b e
  exact⟨F,dx,dy,b,s,hx,hy,e,WP.now w s rfl⟩
 ·exact w.elim
theorem IS{K:W.Frag}:vZ K (LL K) jB:=fun Xw F H x y dx dy Q s hx hy w=>by
 unfold jB at w
 split at w
 ·rename_i b e
  exact⟨F,dx,dy,b,s,hx,hy,e,WP.now w s rfl⟩
 ·exact w.elim
theorem y0(hu:X.A.units+64<cLine)(ha:PD X Xw a δa)(hb:PD X Xw b δb):rl X Xw (.Compare a [.Eq] [b] pos) (dn (d2 nE δa δb)):=i6 (C6 hu) C7 ha hb
theorem ir(hu:X.A.units+64<cLine)(ha:PD X Xw a δa)(hb:PD X Xw b δb):rl X Xw (.Compare a [.NotEq] [b] pos) (dn (d2 jB δa δb)):=i6 (IP hu) IS ha hb
theorem yT(hu:X.A.units+64<cLine)(ha:PD X Xw a δa)(hb:PD X Xw b δb):PD X Xw (.Compare a [.Eq] [b] pos) (d2 nE δa δb):=xq (C6 hu) C7 ha hb
end
def PDW(X:Cx)(Xw:Nat→Hp→Prop)(e:Expr)(δ:DT):Prop:=PW X e (Ot X.K Xw δ)
theorem PW.weak{X:Cx}{e:Expr}{t t':TT}(h:PW X e t)(k:∀σ H Q,t' σ H Q→t σ H Q):PW X e t':=fun wh pins s σ H Q I w=>h wh pins s σ H Q I (k σ H Q w)
section
variable{X:Cx}{Xw:Nat→Hp→Prop}{a b c:Expr}{rest:List Expr}{δa δb δc:DE}{τa τb:DT}{pos:Pos}
theorem fw(ha:rl X Xw a τa):PDW X Xw (.BoolOp .Or [a] pos) τa:=Jq ha
theorem ip(ha:rl X Xw a τa)(hb:PDW X Xw (.BoolOp .Or (b::rest) pos) τb):PDW X Xw (.BoolOp .Or (a::b::rest) pos) (kX τa τb):=PW.weak (LC ha hb) fun σ H Q ⟨F,ρ,s,w⟩=>by
 refine⟨F,ρ,s,WPB.mono (WPB.bindB w) fun v H1 ⟨F1,e1,w1⟩=>?_⟩
 cases v with
 |false=>exact⟨F1,ρ,s.ext e1,w1⟩
 |true=>exact w1 _ _ (Ext.refl e1.fh)
theorem PDW.t(h:PDW X Xw a τa):rl X Xw a τa:=PW.pt h
theorem dF(ha:rl X Xw a τa):rl X Xw (.UnaryOp .Not a pos) (cW τa):=PT.weak (Jo ha) fun σ H Q ⟨F,ρ,s,w⟩=>
 ⟨F,ρ,s,WPB.mono (WPB.bindB w) fun v H1 ⟨F1,e1,w1⟩=>w1 _ _ (Ext.refl e1.fh)⟩
def vG:D→M Bool
 | .non=>M.ret false
 | .bl b=>M.ret b
 | .lst ds=>M.ret (!ds.isEmpty)
 | .tup ds=>M.ret (!ds.isEmpty)
 |_=>M.stuck
def cJ(δ:DE):DT:=fun ρ=>δ ρ>>=vG
theorem DenL.isEmpty{K:W.Frag}{F:Hp}{ds:List D}{vs:List V}(h:DenL K F ds vs):ds.isEmpty=vs.isEmpty:=by
 have:=h.len
 cases ds<;>cases vs<;>simp_all
theorem dG(ha:PD X Xw a δa)(he:∀whole,isTrue a X.env whole=(do let v←whole;standAt a.pos;holding [v] (truthy v)):=by intro _;rfl):rl X Xw a (cJ δa):=PT.weak (Dy ha he) fun σ H Q ⟨F,ρ,s,w⟩=>by
 refine⟨F,ρ,s,WP.mono (WPB.bind (K:=X.K) w) fun v H1 ⟨F1,d,e1,q1,w1⟩=>?_⟩
 cases d with
 |non=>cases (show _=_ from q1);exact⟨false,rfl,w1 _ _ (Ext.refl e1.fh)⟩
 |bl b=>cases (show _=_ from q1);exact⟨b,rfl,w1 _ _ (Ext.refl e1.fh)⟩
 |lst ds=>
  obtain⟨a,vs,rfl,h2,h3,_⟩:=q1
  exact⟨!ds.isEmpty, .inl ⟨vs,SqL.of (e1.fh _ _ h2),by rw[h3.isEmpty]⟩,w1 _ _ (Ext.refl e1.fh)⟩
 |tup ds=>
  obtain⟨a,vs,rfl,h2,h3,_⟩:=q1
  exact⟨!ds.isEmpty, .inr (.inl ⟨vs,SqT.of (e1.fh _ _ h2),by rw[h3.isEmpty]⟩),w1 _ _ (Ext.refl e1.fh)⟩
 |_=>exact w1.elim
theorem xx{op}(h:PD X Xw a δa):PD X Xw (.BoolOp op [a] pos) δa:=Jd h
theorem sO(ha:PD X Xw a δa)(hb:PD X Xw (.BoolOp .And (b::rest) pos) δb):PD X Xw (.BoolOp .And (a::b::rest) pos) (eP δa δb):=PE.weak (I9 ha hb) fun σ H Q ⟨F,ρ,s,w⟩=>by
 refine⟨F,ρ,s,WP.mono (WP.bind w) fun v H1 ⟨F1,d,e1,q1,w1⟩=>?_⟩
 cases d with
 |bl k=>
  refine⟨k,q1,?_⟩
  cases k with
  |true=>exact⟨F1,ρ,s.ext e1,w1⟩
  |false=>exact WP.now w1 e1.fh rfl
 |_=>exact w1.elim
theorem IZ(ha:PD X Xw a δa):PD X Xw (.UnaryOp .Not a pos) (GD δa):=PE.weak (Jc ha) fun σ H Q ⟨F,ρ,s,w⟩=>by
 refine⟨F,ρ,s,WP.mono (WP.bind w) fun v H1 ⟨F1,d,e1,q1,w1⟩=>?_⟩
 cases d with
 |bl k=>exact⟨k,q1,WP.now w1 e1.fh rfl⟩
 |_=>exact w1.elim
def wk(p q:Int→Int→Bool)(a b c:DE):DE:=fun ρ=>a ρ>>=fun x=>b ρ>>=fun y=>match x,y with
 | .int i, .int j=>if p i j then c ρ>>=fun z=>gI (fun i j=> .bl (q i j)) y z else M.ret (.bl false)
 |_,_=>M.stuck
theorem rh{p q:Int→Int→Bool}:∀σ H Q,tD X.K Xw (wk p q δa δb δc) σ H Q→xO (AL fun i j=> .bl (p i j)) (AL fun i j=> .bl (q i j)) (tD X.K Xw δa) (tD X.K Xw δb) (tD X.K Xw δc) σ H Q:=fun σ H Q ⟨F,ρ,s,w⟩=>by
 refine⟨F,ρ,s,WP.mono (WP.bind w) fun v H1 ⟨F1,d,e1,q1,w1⟩=>?_⟩
 refine⟨F1,ρ,s.ext e1,WP.mono (WP.bind w1) fun u H2 ⟨F2,d',e2,q2,w2⟩=>?_⟩
 cases d with
 |int i=>
  cases d' with
  |int j=>
   refine⟨i,j,q1,q2,p i j,rfl,?_⟩
   have w2:WP X.K Xw F2 H2 (if p i j then δc ρ>>=fun z=>gI (fun i j=> .bl (q i j)) (.int j) z else M.ret (.bl false)) Q:=w2
   cases hp:p i j with
   |false=>
    rw[hp] at w2
    exact WP.now w2 e2.fh rfl
   |true=>
    rw[hp] at w2
    refine⟨F2,ρ,(s.ext e1).ext e2,WP.mono (WP.bind w2) fun u' H3 ⟨F3,P5,e3,q3,w3⟩=>?_⟩
    exact yQ (K:=X.K) (gv:=fun i j=> .bl (q i j)) (gd:=fun i j=> .bl (q i j)) (fun _ _ _=>rfl) Xw F3 H3 u u' (.int j) P5 Q e3.fh q2 q3 w3
  |_=>exact w2.elim
 |_=>exact w2.elim
theorem Dd{op xk:CmpOp}{p q:Int→Int→Bool}(ho:OpR X (compareOp op) (AL fun i j=> .bl (p i j)))(qk:OpR X (compareOp xk) (AL fun i j=> .bl (q i j)))(ha:PD X Xw a δa)(hb:PD X Xw b δb)(hc:PD X Xw c δc)
 (hm:lastMarks [op,xk] [b,c]=false:=by with_unfolding_all rfl):PD X Xw (.Compare a [op,xk] [b,c] pos) (wk p q δa δb δc):=PE.weak (Dp ho qk ha hb hc hm) rh
theorem Dw{op xk:CmpOp}{p q:Int→Int→Bool}(ho:OpR X (compareOp op) (AL fun i j=> .bl (p i j)))(qk:OpR X (compareOp xk) (AL fun i j=> .bl (q i j)))(ha:PD X Xw a δa)(hb:PD X Xw b δb)(hc:PD X Xw c δc)
 (hm:lastMarks [op,xk] [b,c]=false:=by with_unfolding_all rfl):rl X Xw (.Compare a [op,xk] [b,c] pos) (dn (wk p q δa δb δc)):=PT.weak (Dx ho qk ha hb hc hm) fun σ H Q ⟨F,ρ,s,w⟩=>by
 refine rh σ H _ ⟨F,ρ,s,WP.mono (WPB.bind w) fun v H1 ⟨F1,d,e1,q1,w1⟩=>?_⟩
 cases d with
 |bl k=>exact⟨k,q1,w1 _ _ (Ext.refl e1.fh)⟩
 |_=>exact w1.elim
def tV(K:W.Frag)(r:List V→Hp→VK→Prop)(g:List D→M D):Prop:=∀(Xw:Nat→Hp→Prop) (F H:Hp) (vs:List V) (ds:List D) (Q:VK),Same F H→DenL K F ds vs→WP K Xw F H (g ds) Q→r vs H Q
variable{x:Str}{p:Pos}{e:Expr}{es:List Expr}{δs:DA}{id T:String}{r:List V→Hp→VK→Prop}{g:List D→M D}
theorem Eb(h:tV X.K r g):∀σ H Q,tD X.K Xw (dA g δs) σ H Q→Oo r (PM X.K Xw δs) σ H Q:=fun σ H Q ⟨F,ρ,s,w⟩=>
 ⟨F,ρ,s,WPL.mono (WP.bindL w) fun vs H1 ⟨F1,ds,e1,q1,w1⟩=>h Xw F1 H1 vs ds Q e1.fh q1 w1⟩
theorem dE(hc:CallR X (.builtin id) r)(hd:tV X.K r g)(hg:Gl X x)(hm:X.mg x=none)(hv:bootBuiltins x=some (.builtin id))(ha:kP X Xw (e::es) δs)(hn:x≠"__name__":=by decide)(rS:(x==("__debug__":Str))=false:=by decide)
 (he:starEach (e::es) X.env=(false,eval e X.env)::starEach es X.env:=by rfl)(k8:(backTo pos (starEach es X.env)).any (·.1)=false:=by rfl):PD X Xw (.Call (.Name x p) (e::es) [] pos) (dA g δs):=
 PE.weak (Dm hc hg hm hv ha hn rS he k8) (Eb hd)
theorem AB(hc:CallR X (.type T) r)(hd:tV X.K r g)(hg:Gl X x)(hm:X.mg x=none)(hv:bootBuiltins x=some (.type T))(ha:kP X Xw (e::es) δs)(hn:x≠"__name__":=by decide)(rS:(x==("__debug__":Str))=false:=by decide)
 (he:starEach (e::es) X.env=(false,eval e X.env)::starEach es X.env:=by rfl)(k8:(backTo pos (starEach es X.env)).any (·.1)=false:=by rfl):PD X Xw (.Call (.Name x p) (e::es) [] pos) (dA g δs):=
 PE.weak (AF hc hg hm hv ha hn rS he k8) (Eb hd)
def bA:List D→M D
 |[.lst ds]=>M.ret (.int ds.length)
 |[.tup ds]=>M.ret (.int ds.length)
 |[.str x]=>M.ret (.int x.length)
 |[.scr ns]=>M.ret (.int ns.length)
 |_=>M.stuck
theorem Ab:tV X.K (fun xs H Q=>(∃p ys,xs=[.ref p]∧(SqL X.K H p ys∨SqT X.K H p ys)∧Q (.int ys.length) H)∨∃z,xs=[.str z]∧z.length≤sizeLine∧Q (.int z.length) H) bA:=fun Xw F H vs ds Q s h w=>by
 unfold bA at w
 split at w
 ·obtain⟨v,rfl,h1⟩:=h.one
  obtain⟨a,vs,rfl,h2,h3,_⟩:=h1
  exact .inl ⟨a,vs,rfl, .inl (SqL.of (s _ _ h2)),by rw[←h3.len];exact WP.now w s rfl⟩
 ·obtain⟨v,rfl,h1⟩:=h.one
  obtain⟨a,vs,rfl,h2,h3,_⟩:=h1
  exact .inl ⟨a,vs,rfl, .inr (SqT.of (s _ _ h2)),by rw[←h3.len];exact WP.now w s rfl⟩
 ·obtain⟨v,rfl,h1⟩:=h.one
  cases (show _=_ from h1.1)
  exact .inr ⟨_,rfl,by have:=h1.2;have:=c8;omega,WP.now w s rfl⟩
 ·obtain⟨v,rfl,h1⟩:=h.one
  obtain⟨a,rfl,h2,_⟩:=h1
  exact .inl ⟨a,_,rfl, .inl (Same.seq s h2),by rw[List.length_map];exact WP.now w s rfl⟩
 ·exact w.elim
theorem bY(hg:Gl X "len")(hm:X.mg "len"=none)(ha:kP X Xw [e] δs)(he:starEach [e] X.env=[(false,eval e X.env)]:=by rfl):PD X Xw (.Call (.Name "len" p) [e] [] pos) (dA bA δs):=
 dE (rF.or rG) Ab hg hm PySem.boot_len ha (by decide) (by decide) he rfl
def Bs:List D→M D
 |[.int i]=>M.ret (.int (if i<0 then -i else i))
 |_=>M.stuck
def wW:List D→M D
 |[.int i, .int j]=>M.ret (.int (if j>i then j else i))
 |_=>M.stuck
def Af:List D→M D
 |[.int i, .int j]=>M.ret (.int (if j<i then j else i))
 |_=>M.stuck
theorem Dc(hg:Gl X "abs")(hm:X.mg "abs"=none)(ha:kP X Xw [e] δs)(hb:bootBuiltins "abs"=some (.builtin "abs"))(he:starEach [e] X.env=[(false,eval e X.env)]:=by rfl):PD X Xw (.Call (.Name "abs" p) [e] [] pos) (dA Bs δs):=
 dE BC (fun Xw F H vs ds Q s h w=>by
  unfold Bs at w
  split at w
  ·obtain⟨v,rfl,h1⟩:=h.one
   cases (show _=_ from h1)
   exact⟨_,rfl,WP.now w s rfl⟩
  ·exact w.elim) hg hm hb ha (by decide) (by decide) he rfl
end
theorem WP.xw{K:W.Frag}{Xw Xw':Nat→Hp→Prop}{F H:Hp}{m:M D}{Q:VK}(h:WP K Xw F H m Q)(k:∀n H,Xw n H→Xw' n H):WP K Xw' F H m Q:=by
 match m,h with
 |none,h=>exact h
 |some (.ok d),h=>exact h
 |some (.ex n),h=>exact fun F' H' e=>k n H' (h F' H' e)
theorem d8{X:Cx}{Xw:Nat→Hp→Prop}{st:Stmt}{τ:DS}(h:kR X.nox (fun _ _=>False) st τ):kR X Xw st (fun ρ=>noex (τ ρ)):=fun F₀ H₀ pins s σ H D I ⟨F,ρ,S,w⟩=>by
 have w:WPS X.K Xw F₀ H₀ (noex (τ ρ)) D:=w
 have w':tS X.K (fun _ _=>False) F₀ H₀ τ D σ H:=by
  refine⟨F,ρ,S,?_⟩
  rcases(τ ρ).cs with e | ⟨n,e⟩ | ⟨o,e⟩
  ·rw[e] at w;exact w.elim
  ·rw[e] at w;exact w.elim
  ·rw[e] at w⊢
   cases o with
   |nx ρ'=>exact w
   |rt d=>exact w
 refine wpAny_mono (h F₀ H₀ pins s σ H D (I.wish _) w') (fun f s' q=>SP.unwish q) fun _ _ z=>z.elim
def EX(cv:Nat→Value)(Xw:Nat→Hp→Prop):XK:=fun c _ H=>∃n,c=cv n∧Xw n H
def JX(K:W.Frag)(cv:Nat→Value)(k:Nat)(f:List D→M D):Sp:=fun vs H Q E=>∃F ds,Same F H∧DenL K F ds vs∧vs.length=k∧WP K (fun n H'=>E (cv n) none H') F H (f ds) Q
def b0(n:Nat)(τ:DS):List D→M D:=fun ds=>τ (ds.map (fun d=>some (Sl.fz d))++List.replicate (n - ds.length) none)>>=fun o=>match o with
 | .nx _=>M.ret .non
 | .rt d=>M.ret d
section
variable{P:Program}{w:World}{K:W.Frag}{mg:Str→Option Value}{base:Heap}{CX:v5}{cv:Nat→Value}
theorem Kj{x qual:Str}{st:Stmt}{f:Addr}{fd:FuncData}{N ps:List Str}{k:Nat}{τ:DS}(Fn:Fun K x qual st f fd)(S:FnScope N ps (af st))
 (nH:∀(cj:Value) (A:Around) (outer:List Env) (s:Shared) (H:Hp) (E:XK),Room k (A.deeper (envOfC qual (af st) s.heap.objs.size f cj))→
  PSDs (fQ CX P w K mg base N qual (af st) f cj A outer s H E) (fun n H'=>E (cv n) none H') (bO st) τ):FnOk P w K mg base CX (k+1) f fd ps (JX K cv ps.length (b0 N.length τ)):=by
 obtain⟨oc,od,kV,doc,pm,an,cj,ct,FG,rfl,lk,v3⟩:=Fn.ex
 refine GP lk v3 S (fun vs H Q E ⟨_,_,_,_,hl,_⟩=>hl) fun A outer s H vs Q E hr EC=>?_
 obtain⟨F,ds,fh,hd,hl,hw⟩:=EC
 refine⟨_,nH cj A outer s H E hr F H,F,ds.map (fun d=>some (Sl.fz d))++List.replicate (N.length - ds.length) none,⟨Ext.refl fh,⟨fh,fun i sl e=>?_⟩,?_,fun i c a e=>?_,fun i j c c' a e=>?_⟩,?_⟩
 ·have hlen:=hd.len
  by_cases hi:i<ds.length
  ·rw[List.getElem?_append_left (by simpa using hi),List.getElem?_map] at e
   cases q:ds[i]? with
   |none=>rw[q] at e;cases e
   |some d=>
    rw[q] at e
    cases e
    obtain⟨v,e1,e2⟩:=hd.get q
    refine⟨v,?_,e2⟩
    unfold L2.start
    rw[List.getElem?_append_left (by simp;omega),List.getElem?_map,e1]
    rfl
  ·rw[List.getElem?_append_right (by simpa using hi),List.getElem?_replicate] at e
   split at e<;>cases e
 ·have hlen:=hd.len
  unfold L2.start
  simp[hlen]
 ·exfalso
  by_cases hi:i<ds.length
  ·rw[List.getElem?_append_left (by simpa using hi),List.getElem?_map] at e
   cases q:ds[i]? with
   |none=>rw[q] at e;cases e
   |some d=>rw[q] at e;cases e
  ·rw[List.getElem?_append_right (by simpa using hi),List.getElem?_replicate] at e
   split at e<;>cases e
 ·exfalso
  by_cases hi:i<ds.length
  ·rw[List.getElem?_append_left (by simpa using hi),List.getElem?_map] at e
   cases q:ds[i]? with
   |none=>rw[q] at e;cases e
   |some d=>rw[q] at e;cases e
  ·rw[List.getElem?_append_right (by simpa using hi),List.getElem?_replicate] at e
   split at e<;>cases e
 ·have hw:WP K (fun n H'=>E (cv n) none H') F H (τ (ds.map (fun d=>some (Sl.fz d))++List.replicate (N.length - ds.length) none)>>=fun o=>match o with | .nx _=>M.ret .non | .rt d=>M.ret d) Q:=hw
  rcases(τ (ds.map (fun d=>some (Sl.fz d))++List.replicate (N.length - ds.length) none)).cs with e | ⟨n,e⟩ | ⟨o,e⟩
  ·rw[e] at hw;exact hw.elim
  ·rw[e] at hw⊢;exact hw
  ·rw[e] at hw⊢
   cases o with
   |nx ρ'=>exact fun σ' F' H' s'=>hw .non H' F' s'.ext rfl
   |rt d=>exact fun v F' H' e' q=>hw v H' F' e' q
end
section
variable{X:Cx}{Xw:Nat→Hp→Prop}{CX:v5}{cv:Nat→Value}{k m:Nat}{f:Addr}{fd:FuncData}{ps:List Str}{g:List D→M D}{x:Str}{p pos:Pos}{e:Expr}{es:List Expr}{δs:DA}
theorem FH(F:FnOk X.prog X.w X.K X.mg X.base CX k f fd ps (JX X.K cv m g))(hr:Room k X.A)(hg:Gl X x)(hm:X.mg x=some (.ref f))(hk:PySem.W.keepIn X.K (.ref f)=true)(hb:Binds X.K fd ps [])(hx:Passes CX X (EX cv Xw))
 (ha:kP X Xw (e::es) δs)(hl:(e::es).length=m)(rS:(x==("__debug__":Str))=false:=by decide)(he:starEach (e::es) X.env=(false,eval e X.env)::starEach es X.env:=by rfl)(k8:(backTo pos (starEach es X.env)).any (·.1)=false:=by rfl):
 PD X Xw (.Call (.Name x p) (e::es) [] pos) (fun ρ=>δs ρ>>=fun ds=>if ds.length=m then g ds else M.stuck):=PE.weak (FQ F hr hg hm hk hb .nil hx ha rS he k8) fun σ H Q ⟨F,ρ,s,w⟩=>by
 refine⟨F,ρ,s,WPL.mono (WP.bindL w) fun vs H1 ⟨F1,ds,e1,q1,w1⟩=>?_⟩
 split at w1
 ·rename_i rV
  refine⟨F1,ds,e1.fh,by simpa using q1,by rw[List.append_nil,←q1.len];exact rV,WP.xw w1 fun n H h=>⟨n,rfl,h⟩⟩
 ·exact w1.elim
theorem yU{x:Str}{d:D}{v:V}{u:Value}(hg:Gl X x)(hm:X.mg x=some u)(r:RelV v u)(hd:∀F,Den X.K F d v)(rS:(x==("__debug__":Str))=false:=by decide):PD X Xw (.Name x pos) (dC d):=
 fX (FU hg hm r rS) hd
end
theorem obj_some{P:Program}{w:World}{H:Hp}{h:Heap}{a:Addr}{o:HO}(x:ObjOk P w H h a o):∃ob,h.get? a=some ob:=by
 cases o with
 |lst xs=>obtain⟨_,_,_,_,e⟩:=x;exact⟨_,e⟩
 |tup xs=>obtain⟨_,_,_,ob,e,_⟩:=x;exact⟨_,e⟩
 |dK ar=>obtain⟨_,_,_,_,o,_,_,e,_⟩:=x;exact⟨_,e⟩
 |dT ar=>obtain⟨_,_,_,_,o,_,_,e,_⟩:=x;exact⟨_,e⟩
 |set S n=>obtain⟨o,_,_,_,e,_⟩:=x;exact⟨_,e⟩
 |ins C dx fs=>obtain⟨_,_,_,e,_⟩:=x;exact⟨_,e⟩
 |own y=>obtain⟨_,e⟩:=x;exact⟨_,e⟩
 |xd fs=>obtain⟨_,⟨_,_,_,e,_⟩,_⟩:=x;exact⟨_,e⟩
 |rng lo hi=>obtain⟨_,_,_,e⟩:=x;exact⟨_,e⟩
 |frz ob u=>obtain⟨e,_⟩:=x;exact⟨_,e⟩
 |tbl ps=>exact⟨_,(show h.get? a=some _ from x)⟩
 |met f y=>exact⟨_,(show h.get? a=some _ from x)⟩
 |ext φ=>obtain⟨_,⟨_,e⟩,_⟩:=x;exact⟨_,e⟩
def pZ(P:Program)(w:World)(cv:Nat→Value):v5:=fun outer H s E e s'=>∃(ea:Addr) (n:Nat) (a0:Value) (B:Heap) (H':Hp),e= .ref ea∧s'.os=s.os∧AllBare s'.gens∧HOk P w H' s'.heap∧Un (mR outer) [] H H' s.heap s'.heap∧
 Heap.FlyingW B outer ea (cv n) a0 s'.heap∧(∀b o,s'.heap.get? b=some o→(H' b≠none∨(s.heap.get? b).isSome=true)→b∉mR outer→B.get? b=some o)∧E (cv n) none H'
section
variable{P:Program}{w:World}{fs:List Addr}{H₀ H:Hp}{h₀ h h':Heap}
theorem Gu(u:Un fs [] H₀ H h₀ h)(ka:∀b o,h.get? b=some o→b∉fs→(H b≠none∨(h₀.get? b).isSome=true)→h'.get? b=some o)(kb:∀b o,h.get? b=some o→b∈fs→∃sl,h'.get? b=some {o with slots:=sl}):Un fs [] H₀ H h₀ h' where
 keep:=fun b o e n hb hx=>ka b o (u.keep b o e n hb hx) hb (.inr (by rw[e];rfl))
 slot:=fun b o e n hb hx=>by
  obtain⟨sl,q⟩:=u.slot b o e n hb hx
  obtain⟨JB,q'⟩:=kb b _ q hb
  exact⟨JB,q'⟩
 free:=u.free
 there:=fun b o e hx=>by
  obtain⟨o',q⟩:=u.there b o e hx
  by_cases hb:b∈fs
  ·obtain⟨sl,q'⟩:=kb b _ q hb
   exact⟨_,q'⟩
  ·exact⟨o',ka b o' q hb (.inr (by rw[e];rfl))⟩
 tups:=u.tups
 frzs:=u.frzs
 tbls:=u.tbls
theorem Ci(x:HOk P w H h)(hf:∀b∈fs,H b=none)(ka:∀b o,h.get? b=some o→b∉fs→H b≠none→h'.get? b=some o):HOk P w H h':=fun a o e=>by
 refine(x a o e).stay (fun b u hb q=>ka b u q (fun z=>?_) ?_) (fun _ q=>q) fun _ _ q=>q
 ·have hz:=hf b z
  rcases hb with rfl | hb
  ·rw[hz] at e;cases e
  ·rw[hz] at hb;cases hb
 ·rcases hb with rfl | hb
  ·rw[e];exact fun z=>nomatch z
  ·rw[hb];exact fun z=>nomatch z
end
section
variable{P:Program}{w:World}{K:W.Frag}{mg:Str→Option Value}{base:Heap}{N:List Str}{qual:Str}{scope:Scope}{f:Addr}{cd:Value}{A:Around}{outer:List Env}{s₀:Shared}{H₀:Hp}{E:XK}{cv:Nat→Value}
theorem bh:Passes (pZ P w cv) (fQ (pZ P w cv) P w K mg base N qual scope f cd A outer s₀ H₀ E) (EX cv fun n H'=>E (cv n) none H'):=by
 intro pins σ H s e s' I ⟨ea,n,a0,B,H',he,Cj,hg,hok,un,OS,hB,m,hm,hE⟩
 subst he
 have HQ:((fQ (pZ P w cv) P w K mg base N qual scope f cd A outer s₀ H₀ E)).env.locals=s₀.heap.objs.size:=rfl
 have E7:mR ((fQ (pZ P w cv) P w K mg base N qual scope f cd A outer s₀ H₀ E)).stack=s₀.heap.objs.size::mR outer:=rfl
 show wpAny (model P w) (A.deeper (envOfC qual scope s₀.heap.objs.size f cd)) (leaving (envOfC qual scope s₀.heap.objs.size f cd) (.ref ea)) _ _ s'
 refine wpAny_leaves_onW (base:=B) (outer:=outer) (L:=s₀.heap.objs.size) I.ok.frames rfl OS fun h' Hx ups=>?_
 have GY:∀b∈mR ((fQ (pZ P w cv) P w K mg base N qual scope f cd A outer s₀ H₀ E)).stack,H' b=none:=fun b hb=>by
  obtain⟨o,ho⟩:∃o,s.heap.get? b=some o:=by
   obtain⟨_,o,ho,_⟩:=I.stack.mem hb
   exact⟨o,ho⟩
  exact un.free b o ho (I.stkFree b hb) (by simp)
 have G4:∀b o,s'.heap.get? b=some o→b∉mR ((fQ (pZ P w cv) P w K mg base N qual scope f cd A outer s₀ H₀ E)).stack→(H' b≠none∨(s.heap.get? b).isSome=true)→h'.get? b=some o:=fun b o e hb hc=>Hx.1 b o (hB b o e hc hb)
 have unA:Un (mR outer) [] H₀ H' s₀.heap s'.heap:=by
  have u1:Un (mR outer) [] H₀ H s₀.heap s.heap:=I.base
  refine⟨fun b o e nn hb hx=>?_,fun b o e nn hb hx=>?_,fun b o e nn hx=>?_,fun b o e hx=>?_,fun b xs q=>un.tups b xs (u1.tups b xs q),fun b o u q=>un.frzs b o u (u1.frzs b o u q),fun b ps q=>?_⟩
  ·refine un.keep b o (u1.keep b o e nn hb hx) (u1.free b o e nn hx) (fun z=>?_) (by simp)
   rw[E7] at z
   rcases List.mem_cons.mp z with z | z
   ·exact absurd (Heap.lt_size e) (by rw[z];exact Nat.lt_irrefl _)
   ·exact hb z
  ·obtain⟨sl,q⟩:=u1.slot b o e nn hb hx
   obtain⟨JB,q'⟩:=un.slot b _ q (u1.free b o e nn hx) (by rw[E7];exact List.mem_cons_of_mem _ hb) (by simp)
   exact⟨JB,q'⟩
  ·obtain⟨o',q⟩:=u1.there b o e hx
   exact un.free b o' q (u1.free b o e nn hx) (by simp)
  ·obtain⟨o',q⟩:=u1.there b o e hx
   exact un.there b o' q (by simp)
  ·obtain⟨m1,q1⟩:=u1.tbls b ps q
   obtain⟨m2,q2⟩:=un.tbls b _ q1
   exact⟨m1++m2,by rw[q2,Array.append_assoc]⟩
 have Pq:∀b,(s₀.heap.get? b).isSome=true→(s.heap.get? b).isSome=true:=fun b hb=>by
  obtain⟨o,ho⟩:=Option.isSome_iff_exists.mp hb
  obtain⟨o',q⟩:=(show Un (mR outer) [] H₀ H s₀.heap s.heap from I.base).there b o ho (by simp)
  rw[q];rfl
 have N6:∀b,(s₀.heap.get? b).isSome=true→b≠s₀.heap.objs.size:=fun b hb z=>by
  obtain⟨o,ho⟩:=Option.isSome_iff_exists.mp hb
  exact absurd (Heap.lt_size ho) (by rw[z];exact Nat.lt_irrefl _)
 have Ll:∀b,b∉mR outer→(H' b≠none∨(s₀.heap.get? b).isSome=true)→b∉mR ((fQ (pZ P w cv) P w K mg base N qual scope f cd A outer s₀ H₀ E)).stack:=fun b hb hc z=>by
  rcases hc with hc | hc
  ·exact hc (GY b z)
  ·rw[E7] at z
   rcases List.mem_cons.mp z with z | z
   ·exact N6 b hc z
   ·exact hb z
 refine⟨ea,n,a0,B,H',rfl,Cj.trans I.os,hg,Ci hok GY (fun b o e hb hc=>G4 b o e hb (.inl hc)),Gu unA (fun b o e hb hc=>G4 b o e (Ll b hb hc) (hc.imp id (Pq b))) (fun b o e hb=>?_),Hx,fun b o e hc hb=>?_,?_⟩
 ·obtain⟨_,o',qk,hd⟩:=OS.2.2.1.mem (show b∈mR ((fQ (pZ P w cv) P w K mg base N qual scope f cd A outer s₀ H₀ E)).stack by rw[E7];exact List.mem_cons_of_mem _ hb)
  rw[e] at qk
  cases qk
  exact ups b o e hd
 ·have M_:=Ll b hb hc
  obtain⟨o',qk⟩:∃o',s'.heap.get? b=some o':=by
   rcases hc with hc | hc
   ·cases q:H' b with
    |none=>exact absurd q hc
    |some u=>
     exact obj_some (hok b u q)
   ·obtain⟨o1,h1⟩:=Option.isSome_iff_exists.mp hc
    exact unA.there b o1 h1 (by simp)
  have:=hB b o' qk (hc.imp id (Pq b)) M_
  rw[Hx.1 b o' this] at e
  cases e
  exact this
 ·rw[hm];exact hE
end
section
variable{X:Cx}{Xw:Nat→Hp→Prop}{cv:Nat→Value}{n:Nat}{C:Addr}{x:Str}{np bp pos:Pos}{e:Expr}{es:List Expr}{δs:DA}{bm:List Value}{B newId NY:String}
end
def G5:D→Option String
 | .non=>some "NoneType"
 | .bl _=>some "bool"
 | .int _=>some "int"
 | .str _=>some "str"
 | .tup _=>some "tuple"
 | .lst _=>some "list"
 |_=>none
def Im(k T:String):Option Bool:=if T="str"∨T="int"∨T="bool"∨T="tuple"∨T="list" then some (decide (k=T)||(decide (k="bool")&&decide (T="int"))) else none
def gS:List D→M D
 |[d, .raw (.ty T)]=>match G5 d with
  |some k=>match Im k T with
   |some b=>M.ret (.bl b)
   |none=>M.stuck
  |none=>M.stuck
 |_=>M.stuck
theorem IG{K:W.Frag}{k T:String}{b:Bool}(hk:k="NoneType"∨k="bool"∨k="int"∨k="str"∨k="tuple"∨k="list")(h:Im k T=some b):PySem.W.kitOne K (.type k) (.type T)=some b:=by
 unfold Im at h
 split at h
 ·rename_i hT
  cases h
  rcases hk with rfl | rfl | rfl | rfl | rfl | rfl<;>rcases hT with rfl | rfl | rfl | rfl | rfl<;>with_unfolding_all rfl
 ·cases h
section
variable{X:Cx}{Xw:Nat→Hp→Prop}{a b e e2:Expr}{es:List Expr}{δa δb:DE}{δs:DA}{pos p:Pos}
def LI(K:W.Frag):List V→Hp→VK→Prop:=fun xs H Q=>∃x T t b,xs=[x, .ty T]∧TyOf K H x t∧PySem.W.kitOne K t (.type T)=some b∧Q (.bl b) H
theorem BD:CallR X (.builtin "isinstance") (LI X.K):=by
 intro pins s σ H xs us Q I r h
 obtain⟨x,T,t,b,rfl,ty,e,q⟩:=h
 obtain⟨u,w',rfl,r1,r2⟩:=vals2 r
 cases (show w'=_ from r2)
 exact z6 I r1 ty e fun tk=>⟨.bl b,H,I.tok tk,rfl,q⟩
theorem Eh{K:W.Frag}{F H:Hp}{d:D}{v:V}{k:String}(s:Same F H)(h:Den K F d v)(hk:G5 d=some k):TyOf K H v (.type k)∧(k="NoneType"∨k="bool"∨k="int"∨k="str"∨k="tuple"∨k="list"):=by
 cases d with
 |non=>cases hk;cases (show _=_ from h);exact⟨.non, .inl rfl⟩
 |bl x=>cases hk;cases (show _=_ from h);exact⟨.bl x, .inr (.inl rfl)⟩
 |int x=>cases hk;cases (show _=_ from h);exact⟨.int x, .inr (.inr (.inl rfl))⟩
 |str x=>cases hk;cases (show _=_ from h.1);exact⟨.str x, .inr (.inr (.inr (.inl rfl)))⟩
 |tup x=>cases hk;obtain⟨a,vs,rfl,h2,_⟩:=h;exact⟨.tup (s _ _ h2), .inr (.inr (.inr (.inr (.inl rfl))))⟩
 |lst x=>cases hk;obtain⟨a,vs,rfl,h2,_⟩:=h;exact⟨.lst (s _ _ h2), .inr (.inr (.inr (.inr (.inr rfl))))⟩
 |_=>cases hk
theorem z0{K:W.Frag}:tV K (LI K) gS:=fun Xw F H vs ds Q s h w=>by
 unfold gS at w
 split at w
 ·rename_i d T
  obtain⟨v,v',rfl,h1,h2⟩:=h.two
  cases (show _=_ from h2)
  split at w
  ·rename_i k hk
   split at w
   ·rename_i b hb
    obtain⟨ty,qj⟩:=Eh s h1 hk
    exact⟨v,T, .type k,b,rfl,ty,IG qj hb,WP.now w s rfl⟩
   ·exact w.elim
  ·exact w.elim
 ·exact w.elim
theorem lA(hg:Gl X "isinstance")(hm:X.mg "isinstance"=none)(hb:bootBuiltins "isinstance"=some (.builtin "isinstance"))(ha:kP X Xw [e,e2] δs)(he:starEach [e,e2] X.env=(false,eval e X.env)::starEach [e2] X.env:=by rfl)
 (k8:(backTo pos (starEach [e2] X.env)).any (·.1)=false:=by rfl):PD X Xw (.Call (.Name "isinstance" p) [e,e2] [] pos) (dA gS δs):=
 dE BD z0 hg hm hb ha (by decide) (by decide) he k8
theorem qR{x:Str}{T:String}(hg:Gl X x)(hm:X.mg x=none)(hv:bootBuiltins x=some (.type T))(hn:x≠"__name__":=by decide)(hd:(x==("__debug__":Str))=false:=by decide):PD X Xw (.Name x pos) (dC (.raw (.ty T))):=
 fX (v:= .ty T) (FP hg hm hv (show RelV (.ty T) (.type T) from rfl) hn hd) fun _=>rfl
def bools:List D→Option (List Bool)
 |[]=>some []
 | .bl b::r=>(bools r).map (b:: ·)
 |_=>none
def allM:List D→M D
 |[.lst ds]=>match bools ds with
  |some bs=>M.ret (.bl (bs.all id))
  |none=>M.stuck
 |_=>M.stuck
theorem p8{K:W.Frag}{F:Hp}:∀{ds:List D}{vs:List V}{bs:List Bool},bools ds=some bs→DenL K F ds vs→vs=bs.map V.bl
 |[],_,_,e,h=>by cases e;exact h
 | .bl b::r,_,_,e,⟨v,r',h1,h2,h3⟩=>by
   unfold bools at e
   cases q:bools r with
   |none=>rw[q] at e;cases e
   |some bs=>rw[q] at e;cases e;subst h1;rw[p8 q h3,show v= .bl b from h2];rfl
 | .non::_,_,_,e,_=>by cases e
 | .int _::_,_,_,e,_=>by cases e
 | .str _::_,_,_,e,_=>by cases e
 | .raw _::_,_,_,e,_=>by cases e
 | .exc _::_,_,_,e,_=>by cases e
 | .scr _::_,_,_,e,_=>by cases e
 | .tup _::_,_,_,e,_=>by cases e
 | .lst _::_,_,_,e,_=>by cases e
theorem zh:∀{bs:List Bool}{aD:List Value},Vals (bs.map V.bl) aD→aD=bs.map Value.bool
 |[],_,r=>by cases r;rfl
 |b::bs,_,r=>by
  cases r with
  |cons r1 r2=>cases (show _=_ from r1);rw[zh r2];rfl
def Od:List V→Hp→VK→Prop:=fun xs H Q=>∃(a:Addr) (bs:List Bool),xs=[.ref a]∧H a=some (.lst (bs.map V.bl))∧Q (.bl (bs.all id)) H
theorem all_range{bs:List Bool}:(List.range bs.length).all (fun i=>bs.getD i false)=bs.all id:=by
 induction bs with
 |nil=>rfl
 |cons b bs ih=>
  rw[List.length_cons,List.range_succ_eq_map,List.all_cons,List.all_map,List.all_cons]
  congr 1
theorem zv(hc:X.calm=true):CallR X (.builtin "all") Od:=by
 intro pins s σ H xs us Q I r h
 obtain⟨a,bs,rfl,hH,q⟩:=h
 obtain⟨u,rfl,r1⟩:=vals1 r
 cases (show u=_ from r1)
 obtain⟨aD,r2,pl,hz⟩:=I.list (SqL.of (K:=X.K) hH)
 obtain rfl:=zh r2
 have gR:a≠s.heap.objs.size:=Nat.ne_of_lt (I.hok.lt hH)
 refine call_all_walk (wpAny_pyIter_list pl.isList ?_)
 refine⟨s.heap.objs.size,_,_,_,_,_,fun i=>bs.getD i false,rfl,Walks.list (A:=X.A.in1) (show X.A.in1.handled=none from I.ok.hd hc) s.heap.objs.size a gR (bs.map Value.bool).toArray,⟨⟨_,Heap.get?_push_size _ rfl,rfl,rfl⟩,Heap.IsList.at pl.isList fun o e=>Heap.get?_push_of_some _ e⟩,?_,fun h' tk k=>?_⟩
 ·intro i v s' Q' E' hv hq
  have hv:(bs.map Value.bool).toArray[i]? =some v:=hv
  rw[List.getElem?_toArray,List.getElem?_map] at hv
  cases q':bs[i]? with
  |none=>rw[q'] at hv;cases hv
  |some b=>
   rw[q'] at hv
   cases hv
   have:bs.getD i false=b:=by rw[List.getD_eq_getElem?_getD,q'];rfl
   have hq:Q' (bs.getD i false) s':=hq
   rw[this] at hq
   exact wpAny_truthy_bool hq
 ·have e:(List.range (bs.map Value.bool).toArray.size).all (fun i=>bs.getD i false)=bs.all id:=by
   rw[List.size_toArray,List.length_map];exact all_range
  rw[e]
  refine⟨.bl (bs.all id),H,I.kept (h':=h') (t':=tk) fun b o e'=>k b o (fun z=>?_) (Heap.get?_push_of_some _ e'),rfl,q⟩
  have z:b=s.heap.objs.size:=by simpa using z
  exact absurd (Heap.lt_size e') (by rw[z];exact Nat.lt_irrefl _)
theorem xp(hc:X.calm=true)(hg:Gl X "all")(hm:X.mg "all"=none)(hb:bootBuiltins "all"=some (.builtin "all"))(ha:kP X Xw [e] δs)(he:starEach [e] X.env=[(false,eval e X.env)]:=by rfl):PD X Xw (.Call (.Name "all" p) [e] [] pos) (dA allM δs):=
 dE (zv hc) (fun Xw F H vs ds Q s h w=>by
  unfold allM at w
  split at w
  ·rename_i ds
   obtain⟨v,rfl,h1⟩:=h.one
   obtain⟨a,ws,rfl,h2,h3,_⟩:=h1
   split at w
   ·rename_i bs hb
    exact⟨a,bs,rfl,by rw[←p8 hb h3];exact s _ _ h2,WP.now w s rfl⟩
   ·exact w.elim
  ·exact w.elim) hg hm hb ha (by decide) (by decide) he rfl
end
section
variable{X:Cx}{Xw:Nat→Hp→Prop}{a b e e2:Expr}{es:List Expr}{δ δa δb:DE}{δs:DA}{pos p apos bp:Pos}
theorem Gq{i:Nat}:∀F₀ H₀ D σ H,tS X.K Xw F₀ H₀ (mN i δ) D σ H→Ed (Om X.K "list" y7 (o_ i) (Ec (tD X.K Xw δ) JE)) D σ H:=fun F₀ H₀ D σ H ⟨F,ρ,s,w⟩=>by
 unfold mN at w
 cases ho:Ax ρ i with
 |none=>rw[ho] at w;exact w.elim
 |some ds=>
  rw[ho] at w
  have hi:=qM ho
  obtain⟨v,hv,a,o,rfl,hH,hF,vs,rfl,hd,hl⟩:=s.st.den i _ hi
  have w:WPS X.K Xw F₀ H₀ (δ ρ>>=fun d=>if ds.length<lim then M.ret (.nx (ρ.set i (some (.ow (.lst (ds++[d])))))) else M.stuck) D:=w
  refine⟨.ref a,hv, .inl ⟨rfl,vs,SqL.of hH⟩,F,ρ,s.st,?_⟩
  rcases(δ ρ).cs with q | ⟨n,q⟩ | ⟨d,q⟩
  ·rw[q] at w;exact w.elim
  ·rw[q] at w⊢;exact fun F' H' e'=>w F' H' (s.ext.trans e')
  ·rw[q] at w⊢
   intro u H1 F1 e1 hq
   have w:WPS X.K Xw F₀ H₀ (if ds.length<lim then M.ret (.nx (ρ.set i (some (.ow (.lst (ds++[d])))))) else M.stuck) D:=w
   split at w
   ·rename_i dw
    have hlen:=hd.len
    refine⟨a,vs,u,rfl,rfl,e1.hh _ _ hH,by have:=c8;omega,?_⟩
    exact w σ F1 _ ((s.ext' e1).chg (c₀:= .lst (ds++[d])) hi hv ⟨_,rfl,DenL.append (DenL.mono e1.ff hd) (.cons hq .nil),by rw[List.length_append];exact dw⟩)
   ·exact w.elim
theorem Gr{i:Nat}:∀F₀ H₀ D σ H,tS X.K Xw F₀ H₀ (DR i δ) D σ H→Ed (Om X.K "list" y8 (o_ i) (Ec (tD X.K Xw δ) JE)) D σ H:=fun F₀ H₀ D σ H ⟨F,ρ,s,w⟩=>by
 unfold DR at w
 cases ho:Ax ρ i with
 |none=>rw[ho] at w;exact w.elim
 |some ds=>
  rw[ho] at w
  have hi:=qM ho
  obtain⟨v,hv,a,o,rfl,hH,hF,vs,rfl,hd,hl⟩:=s.st.den i _ hi
  have w:WPS X.K Xw F₀ H₀ (δ ρ>>=fun d=>lstM d>>=fun es=>if ds.length+es.length≤lim then M.ret (.nx (ρ.set i (some (.ow (.lst (ds++es)))))) else M.stuck) D:=w
  refine⟨.ref a,hv, .inl ⟨rfl,vs,SqL.of hH⟩,F,ρ,s.st,?_⟩
  rcases(δ ρ).cs with q | ⟨n,q⟩ | ⟨d,q⟩
  ·rw[q] at w;exact w.elim
  ·rw[q] at w⊢;exact fun F' H' e'=>w F' H' (s.ext.trans e')
  ·rw[q] at w⊢
   intro u H1 F1 e1 hq
   cases d with
   |lst es=>
    obtain⟨b,ws,rfl,k2,k3,k4⟩:=hq
    have w:WPS X.K Xw F₀ H₀ (if ds.length+es.length≤lim then M.ret (.nx (ρ.set i (some (.ow (.lst (ds++es)))))) else M.stuck) D:=w
    split at w
    ·rename_i dw
     have hlen:=hd.len
     have Pd:=k3.len
     refine⟨a,b,vs,ws,rfl,rfl,e1.hh _ _ hH,e1.fh _ _ k2,by have:=c8;omega,?_⟩
     exact w σ F1 _ ((s.ext' e1).chg (c₀:= .lst (ds++es)) hi hv ⟨_,rfl,DenL.append (DenL.mono e1.ff hd) k3,by rw[List.length_append];exact dw⟩)
    ·exact w.elim
   |_=>exact w.elim
theorem mX{i:Nat}{x:Str}(hv:PE X (.Name x p) (o_ i))(he:PD X Xw e δ)(hs:swapsWith (.Call (.Attribute (.Name x p) "append" apos) [e] [] bp) none pos.line X.env=pure false:=by rfl)
 (g7:attributeBase (.Name x p) "append" X.env (eval (.Name x p) X.env)=eval (.Name x p) X.env:=by rfl)
 (nK:((backTo bp (starEach [e] X.env)).all (fun x=>!x.1)&&(backToKw bp (keywordEach [] X.env)).all (fun x=>x.1.isSome)&&decide ([e].length+([]:List Keyword).length+(if ([]:List Keyword).isEmpty then 0 else 1)<30))=true:=by rfl)
 (g8:(apos.endLine==bp.line)=true:=by rfl)(pN:starEach [e] X.env=[(false,eval e X.env)]:=by rfl):kR X Xw (.Expr (.Call (.Attribute (.Name x p) "append" apos) [e] [] bp) pos) (mN i δ):=fun F₀ H₀=>
 PS.weak (mW (Dl PySem.F.plainAttrs_list PySem.F.slot_list_append PySem.F.type_list_append qD hv (sL he sM pN) g7 nK g8 pN rfl) hs) fun D σ H w=>Gq F₀ H₀ D σ H w
theorem FY{i:Nat}{x:Str}(hv:PE X (.Name x p) (o_ i))(he:PD X Xw e δ)(hs:swapsWith (.Call (.Attribute (.Name x p) "extend" apos) [e] [] bp) none pos.line X.env=pure false:=by rfl)
 (g7:attributeBase (.Name x p) "extend" X.env (eval (.Name x p) X.env)=eval (.Name x p) X.env:=by rfl)
 (nK:((backTo bp (starEach [e] X.env)).all (fun x=>!x.1)&&(backToKw bp (keywordEach [] X.env)).all (fun x=>x.1.isSome)&&decide ([e].length+([]:List Keyword).length+(if ([]:List Keyword).isEmpty then 0 else 1)<30))=true:=by rfl)
 (g8:(apos.endLine==bp.line)=true:=by rfl)(pN:starEach [e] X.env=[(false,eval e X.env)]:=by rfl):kR X Xw (.Expr (.Call (.Attribute (.Name x p) "extend" apos) [e] [] bp) pos) (DR i δ):=fun F₀ H₀=>
 PS.weak (mW (Dl PySem.F.plainAttrs_list PySem.F.slot_list_extend PySem.F.type_list_extend Aj hv (sL he sM pN) g7 nK g8 pN rfl) hs) fun D σ H w=>Gr F₀ H₀ D σ H w
theorem C5:OpR X (binaryOp .Add) (fun x y H Q=>∃a b ys,x= .ref a∧y= .ref b∧SqT X.K H a []∧SqT X.K H b ys∧Q (.ref b) H):=by
 intro pins s σ H x y v u Q I rx ry h
 obtain⟨a,b,ys,rfl,rfl,ha,hb,q⟩:=h
 cases rx
 cases ry
 obtain⟨aD,r1,p1,_⟩:=I.tuple ha
 obtain⟨eV,r2,p2,_⟩:=I.tuple hb
 cases r1
 obtain⟨⟨cls,dd,data,sl⟩,ho,hc,n,hd⟩:=id p1
 obtain⟨⟨MN,Be,data2,Mu⟩,HW,HH,n2,hd2⟩:=id p2
 simp only at hc hd HH hd2
 subst hc hd HH hd2
 exact concat_meets ⟨_,ho,rfl⟩ ⟨_,HW,rfl⟩ noFill_tuple_add seq_tuple_add PySem.F.slot_tuple_add PySem.F.entry_tuple_add (PySem.F.args_tuple_add_2 _ _)
  (tuple_addW0 a b _ _ n n2 dd Be sl Mu (by simp)) ⟨ho,HW,⟨.ref b,H,I,rfl,q⟩⟩
def um:D→D→M D
 | .tup x, .tup y=>if x.length+y.length≤lim then M.ret (.tup (x++y)) else M.stuck
 |_,_=>M.stuck
theorem FJ(ha:PD X Xw a δa)(hb:PD X Xw b δb):PD X Xw (.BinOp a .Add b pos) (d2 um δa δb):=oO (C5.or Fx) (fun Xw F H x y dx dy Q s hx hy w=>by
 unfold um at w
 split at w
 ·rename_i i j
  obtain⟨a,vs,h1,h2,h3,h4⟩:=hx
  obtain⟨a',vs',k1,k2,k3,k4⟩:=hy
  split at w
  ·rename_i hl
   have e1:=h3.len
   have e2:=k3.len
   have:=c8
   by_cases hv:vs=[]
   ·subst hv
    have:i=[]:=by cases i with | nil=>rfl | cons _ _=>simp at e1
    subst this
    exact .inl ⟨a,a',vs',h1,k1,SqT.of (s _ _ h2),SqT.of (s _ _ k2),WP.now w s ⟨a',vs',k1▸rfl,k2,k3,k4⟩⟩
   ·refine .inr ⟨a,a',vs,vs',h1,k1,SqT.of (s _ _ h2),SqT.of (s _ _ k2),hv,by omega,fun z=>?_,fun z p hp=>?_⟩
    ·subst z
     have:j=[]:=by cases j with | nil=>rfl | cons _ _=>simp at e2
     subst this
     rw[List.append_nil] at w
     exact WP.now w s ⟨a,vs,rfl,h2,h3,h4⟩
    ·exact WP.fin w (Ext.lay s hp) ⟨p,_,rfl,aF,DenL.mono (Ext.lay s hp).ff (h3.append k3),by rw[List.length_append];exact hl⟩
  ·exact w.elim
 ·exact w.elim) ha hb
end
section
variable{X:Cx}{Xw:Nat→Hp→Prop}{a b e e2 o:Expr}{es:List Expr}{δ δa δb δo:DE}{δs:DA}{pos p apos bp:Pos}
def dM(kd:D→Bool)(g:D→List D→M D)(o:DE)(s:DA):DE:=fun ρ=>o ρ>>=fun d=>if kd d then s ρ>>=fun ds=>g d ds else M.stuck
theorem Hb{T:String}{name:Str}{id:String}{r:V→List V→Hp→VK→Prop}{kd:D→Bool}{g:D→List D→M D}(pa:PlainAttrs T)(slot:Slot T name id)(NN:typeOf (.builtin id)=pure (.type "method_descriptor"))(hm:L4 X id r)
 (hk:∀(F H:Hp) (x:V) (d:D),kd d=true→Same F H→Den X.K F d x→My X.K T x H)
 (hd:∀(Xw:Nat→Hp→Prop) (F H:Hp) (x:V) (vs:List V) (d:D) (ds:List D) (Q:VK),Same F H→Den X.K F d x→DenL X.K F ds vs→WP X.K Xw F H (g d ds) Q→r x vs H Q)
 (ho:PD X Xw o δo)(ha:kP X Xw (e::es) δs)
 (g7:attributeBase o name X.env (eval o X.env)=eval o X.env:=by rfl)
 (nK:((backTo bp (starEach (e::es) X.env)).all (fun x=>!x.1)&&(backToKw bp (keywordEach [] X.env)).all (fun x=>x.1.isSome)
  &&decide ((e::es).length+([]:List Keyword).length+(if ([]:List Keyword).isEmpty then 0 else 1)<30))=true:=by rfl)
 (g8:(apos.endLine==bp.line)=true:=by rfl) (hs:starEach (e::es) X.env=(false,eval e X.env)::starEach es X.env:=by rfl) (wJ:(backTo bp (starEach es X.env)).any (·.1)=false:=by rfl):
 PD X Xw (.Call (.Attribute o name apos) (e::es) [] bp) (dM kd g δo δs):=PE.weak (Dl pa slot NN hm ho ha g7 nK g8 hs wJ) fun σ H Q ⟨F,ρ,s,w⟩=>by
 refine⟨F,ρ,s,WP.mono (WP.bind w) fun v H1 ⟨F1,d,e1,q1,w1⟩=>?_⟩
 split at w1
 ·rename_i QQ
  refine⟨hk F1 H1 v d QQ e1.fh q1,F1,ρ,s.ext e1,WPL.mono (WP.bindL w1) fun vs H2 ⟨F2,ds,e2,q2,w2⟩=>?_⟩
  exact hd Xw F2 H2 v vs d ds Q e2.fh (Den.mono e2.ff q1) q2 w2
 ·exact w1.elim
def nQ:D→Bool
 | .str _=>true
 |_=>false
theorem Cr{K:W.Frag}(F H:Hp)(x:V)(d:D)(h:nQ d=true)(s:Same F H)(q:Den K F d x):My K "str" x H:=by
 cases d with
 |str z=>cases (show _=_ from q.1);exact rfl
 |_=>cases h
def fL:List D→Option (List Str)
 |[]=>some []
 | .str x::r=>(fL r).map (x:: ·)
 |_=>none
theorem iM{K:W.Frag}{F:Hp}:∀{ds:List D}{vs:List V}{xs:List Str},fL ds=some xs→DenL K F ds vs→vs=xs.map V.str
 |[],_,_,e,h=>by cases e;exact h
 | .str b::r,_,_,e,⟨v,r',h1,h2,h3⟩=>by
   unfold fL at e
   cases q:fL r with
   |none=>rw[q] at e;cases e
   |some bs=>rw[q] at e;cases e;subst h1;rw[iM q h3,show v= .str b from h2.1];rfl
 | .non::_,_,_,e,_=>by cases e
 | .int _::_,_,_,e,_=>by cases e
 | .bl _::_,_,_,e,_=>by cases e
 | .raw _::_,_,_,e,_=>by cases e
 | .exc _::_,_,_,e,_=>by cases e
 | .scr _::_,_,_,e,_=>by cases e
 | .tup _::_,_,_,e,_=>by cases e
 | .lst _::_,_,_,e,_=>by cases e
theorem ph:∀{xs:List Str}{aD:List Value},Vals (xs.map V.str) aD→StrsAre aD xs
 |[],_,r=>by cases r;exact .nil
 |b::bs,_,r=>by
  cases r with
  |cons r1 r2=>obtain⟨t,rfl⟩:=r1;exact .cons b t (ph r2)
def c7:List Str→Str
 |[]=>⟨#[]⟩
 |x::r=>x++c7 r
def joinM:D→List D→M D
 | .str sep,[.lst ds]=>match fL ds with
   |some xs=>if sep.length=0∧(xs.map (·.length)).sum≤lim then M.ret (.str (c7 xs)) else M.stuck
   |none=>M.stuck
 | .str sep,[.tup ds]=>match fL ds with
   |some xs=>if sep.length=0∧(xs.map (·.length)).sum≤lim then M.ret (.str (c7 xs)) else M.stuck
   |none=>M.stuck
 |_,_=>M.stuck
theorem nk:∀xs:List Str,(c7 xs).length=(xs.map (·.length)).sum
 |[]=>rfl
 |x::r=>by
  show (x++c7 r).length=_
  rw[iL,nk r,List.map_cons,List.sum_cons]
theorem Gn{x:Str}(h:x.length=0):x=⟨#[]⟩:=by
 obtain⟨⟨l⟩⟩:=x
 have:l.length=0:=h
 cases l with
 |nil=>rfl
 |cons _ _=>simp at this
theorem mC(x:Str):x++(⟨#[]⟩:Str)=x:=by
 obtain⟨c⟩:=x
 show (⟨c++ #[]⟩:Str)=⟨c⟩
 simp
theorem lY(sep:Str)(h:sep.length=0):∀xs:List Str,Txt.join sep xs=c7 xs:=by
 have e:=Gn h
 subst e
 intro xs
 show Builtin.Str.glued _ xs=_
 rw[StrLaws.glued_eq_join]
 induction xs with
 |nil=>rfl
 |cons x r ih=>
  cases r with
  |nil=>show x=x++(⟨#[]⟩:Str);rw[mC]
  |cons y r=>show x++(⟨#[]⟩:Str)++Str.join _ (y::r)=x++c7 (y::r);rw[mC,ih]
def rJoin(K:W.Frag):V→List V→Hp→VK→Prop:=fun x vs H Q=>∃(sep:Str) (a:Addr) (xs:List Str),x= .str sep∧vs=[.ref a]∧(H a=some (.lst (xs.map V.str))∨H a=some (.tup (xs.map V.str)))∧sep.length=0∧(xs.map (·.length)).sum≤lim∧Q (.str (c7 xs)) H
theorem Ft:L4 X "str.join" (rJoin X.K):=by
 intro pins s σ H x vs v us Q I rx rv h
 obtain⟨sep,a,xs,rfl,rfl,hH,hs,hl,q⟩:=h
 obtain⟨t,rfl⟩:=rx
 obtain⟨u,rfl,r1⟩:=rv.one
 cases (show u=_ from r1)
 have hok:(xs.map (·.length)).sum+xs.length*sep.length≤16777216:=by
  rw[hs,Nat.mul_zero]
  unfold lim at hl
  omega
 rcases hH with hH | hH
 ·obtain⟨aD,r2,pl,hz⟩:=I.list (SqL.of (K:=X.K) hH)
  refine join_list pl.isList (by simpa using ph r2) hok fun t' k=>⟨.str (c7 xs),H,I.tok k,⟨t',by rw[lY sep hs]⟩,q⟩
 ·obtain⟨aD,r2,pl,hz⟩:=I.tuple (SqT.of (K:=X.K) hH)
  refine join_tuple pl (by simpa using ph r2) hok fun t' k=>⟨.str (c7 xs),H,I.tok k,⟨t',by rw[lY sep hs]⟩,q⟩
theorem mV(ho:PD X Xw o δo)(ha:kP X Xw [e] δs)(g7:attributeBase o "join" X.env (eval o X.env)=eval o X.env:=by rfl)
 (nK:((backTo bp (starEach [e] X.env)).all (fun x=>!x.1)&&(backToKw bp (keywordEach [] X.env)).all (fun x=>x.1.isSome)&&decide ([e].length+([]:List Keyword).length+(if ([]:List Keyword).isEmpty then 0 else 1)<30))=true:=by rfl)
 (g8:(apos.endLine==bp.line)=true:=by rfl)(pN:starEach [e] X.env=[(false,eval e X.env)]:=by rfl):PD X Xw (.Call (.Attribute o "join" apos) [e] [] bp) (dM nQ joinM δo δs):=
 Hb PySem.F.plainAttrs_str PySem.F.slot_str_join PySem.F.type_str_join Ft Cr (fun Xw F H x vs d ds Q s hx hv w=>by
  unfold joinM at w
  split at w
  ·rename_i sep ds
   obtain⟨v,rfl,h1⟩:=hv.one
   obtain⟨a,ws,rfl,h2,h3,_⟩:=h1
   split at w
   ·rename_i xs Ia
    split at w
    ·rename_i hc
     exact⟨sep,a,xs,hx.1,rfl, .inl (by rw[←iM Ia h3];exact s _ _ h2),hc.1,hc.2,WP.now w s ⟨rfl,by rw[nk];exact hc.2⟩⟩
    ·exact w.elim
   ·exact w.elim
  ·rename_i sep ds
   obtain⟨v,rfl,h1⟩:=hv.one
   obtain⟨a,ws,rfl,h2,h3,_⟩:=h1
   split at w
   ·rename_i xs Ia
    split at w
    ·rename_i hc
     exact⟨sep,a,xs,hx.1,rfl, .inr (by rw[←iM Ia h3];exact s _ _ h2),hc.1,hc.2,WP.now w s ⟨rfl,by rw[nk];exact hc.2⟩⟩
    ·exact w.elim
   ·exact w.elim
  ·exact w.elim) ho ha g7 nK g8 pN rfl
def pd:List D→M D
 |[.lst ds]=>M.ret (.tup ds)
 |[.tup ds]=>M.ret (.tup ds)
 |_=>M.stuck
theorem oP(hg:Gl X "tuple")(hm:X.mg "tuple"=none)(hb:bootBuiltins "tuple"=some (.type "tuple"))(ha:kP X Xw [e] δs)(he:starEach [e] X.env=[(false,eval e X.env)]:=by rfl):PD X Xw (.Call (.Name "tuple" p) [e] [] pos) (dA pd δs):=
 AB pH (fun Xw F H vs ds Q s h w=>by
  unfold pd at w
  split at w
  ·rename_i ds
   obtain⟨v,rfl,h1⟩:=h.one
   obtain⟨a,ws,rfl,h2,h3,h4⟩:=h1
   exact⟨a,ws,rfl, .inl ⟨SqL.of (s _ _ h2),fun l hl=>WP.fin w (Ext.lay s hl) ⟨l,ws,rfl,aF,DenL.mono (Ext.lay s hl).ff h3,h4⟩⟩⟩
  ·rename_i ds
   obtain⟨v,rfl,h1⟩:=h.one
   obtain⟨a,ws,rfl,h2,h3,h4⟩:=h1
   exact⟨a,ws,rfl, .inr ⟨SqT.of (s _ _ h2),WP.now w s ⟨a,ws,rfl,h2,h3,h4⟩⟩⟩
  ·exact w.elim) hg hm hb ha (by decide) (by decide) he rfl
theorem xu(hc:X.calm=true)(hg:Gl X "max")(hm:X.mg "max"=none)(hb:bootBuiltins "max"=some (.builtin "max"))(ha:kP X Xw [e,e2] δs)(he:starEach [e,e2] X.env=(false,eval e X.env)::starEach [e2] X.env:=by rfl)
 (k8:(backTo pos (starEach [e2] X.env)).any (·.1)=false:=by rfl):PD X Xw (.Call (.Name "max" p) [e,e2] [] pos) (dA wW δs):=
 dE (zw hc) (fun Xw F H vs ds Q s h w=>by
  unfold wW at w
  split at w
  ·obtain⟨v,v',rfl,h1,h2⟩:=h.two
   cases (show _=_ from h1)
   cases (show _=_ from h2)
   exact⟨_,_,rfl,WP.now w s rfl⟩
  ·exact w.elim) hg hm hb ha (by decide) (by decide) he k8
theorem Df(hc:X.calm=true)(hg:Gl X "min")(hm:X.mg "min"=none)(hb:bootBuiltins "min"=some (.builtin "min"))(ha:kP X Xw [e,e2] δs)(he:starEach [e,e2] X.env=(false,eval e X.env)::starEach [e2] X.env:=by rfl)
 (k8:(backTo pos (starEach [e2] X.env)).any (·.1)=false:=by rfl):PD X Xw (.Call (.Name "min" p) [e,e2] [] pos) (dA Af δs):=
 dE (zx hc) (fun Xw F H vs ds Q s h w=>by
  unfold Af at w
  split at w
  ·obtain⟨v,v',rfl,h1,h2⟩:=h.two
   cases (show _=_ from h1)
   cases (show _=_ from h2)
   exact⟨_,_,rfl,WP.now w s rfl⟩
  ·exact w.elim) hg hm hb ha (by decide) (by decide) he k8
def nums:List D→Option (List Int)
 |[]=>some []
 | .int x::r=>(nums r).map (x:: ·)
 |_=>none
theorem g9{K:W.Frag}{F:Hp}:∀{ds:List D}{vs:List V}{xs:List Int},nums ds=some xs→DenL K F ds vs→vs=xs.map V.int
 |[],_,_,e,h=>by cases e;exact h
 | .int b::r,_,_,e,⟨v,r',h1,h2,h3⟩=>by
   unfold nums at e
   cases q:nums r with
   |none=>rw[q] at e;cases e
   |some bs=>rw[q] at e;cases e;subst h1;rw[g9 q h3,show v= .int b from h2];rfl
 | .non::_,_,_,e,_=>by cases e
 | .str _::_,_,_,e,_=>by cases e
 | .bl _::_,_,_,e,_=>by cases e
 | .raw _::_,_,_,e,_=>by cases e
 | .exc _::_,_,_,e,_=>by cases e
 | .scr _::_,_,_,e,_=>by cases e
 | .tup _::_,_,_,e,_=>by cases e
 | .lst _::_,_,_,e,_=>by cases e
def EW(neg:Bool):D→D→M D
 | .int i, .tup ds=>match nums ds with | some ns=>M.ret (.bl (if neg then !ns.contains i else ns.contains i)) | none=>M.stuck
 |_,_=>M.stuck
theorem Co(i:Int)(ns:List Int):Mq (.int i) (ns.map V.int)=ns.contains i:=by
 unfold Mq
 rw[List.any_map]
 induction ns with
 |nil=>rfl
 |cons n ns ih=>
  rw[List.any_cons,List.contains_cons,ih]
  congr 1
  show Ex (.int n) (.int i)=(i==n)
  unfold Ex
  exact Bool.beq_comm
theorem Ig{neg:Bool}{K:W.Frag}:vZ K (PH K neg) (EW neg):=fun Xw F H x y dx dy Q s hx hy w=>by
 unfold EW at w
 split at w
 ·rename_i i ds
  obtain⟨a,vs,h1,h2,h3,h4⟩:=hy
  split at w
  ·rename_i ns hn
   have hv:=g9 hn h3
   subst hv
   cases (show _=_ from hx)
   refine⟨a,ns.map V.int,h1, .inr (SqT.of (s _ _ h2)),rfl,?_,?_⟩
   ·rw[List.all_map]
    exact List.all_eq_true.mpr fun _ _=>rfl
   ·rw[Co]
    exact WP.now w s rfl
  ·exact w.elim
 ·exact w.elim
theorem AJ(ha:PD X Xw a δa)(hb:PD X Xw b δb)(hm:behindInMarks .NotIn b=false:=by rfl):rl X Xw (.Compare a [.NotIn] [b] pos) (dn (d2 (EW true) δa δb)):=i6 sI Ig ha hb hm
def pL(neg:Bool):D→D→M D
 | .str x, .str y=>M.ret (.bl (if neg then !(!(Builtin.Str.occurrences y x 0 y.length 1).isEmpty) else !(Builtin.Str.occurrences y x 0 y.length 1).isEmpty))
 |_,_=>M.stuck
theorem IW(ha:PD X Xw a δa)(hb:PD X Xw b δb)(hm:behindInMarks .In b=false:=by rfl):PD X Xw (.Compare a [.In] [b] pos) (d2 (pL false) δa δb):=xq qK (fun Xw F H x y dx dy Q s hx hy w=>by
 unfold pL at w
 split at w
 ·exact⟨_,_,hx.1,hy.1,WP.now w s rfl⟩
 ·exact w.elim) ha hb hm
theorem Jn(ha:PD X Xw a δa)(hb:PD X Xw b δb)(hm:behindInMarks .In b=false:=by rfl):rl X Xw (.Compare a [.In] [b] pos) (dn (d2 (pL false) δa δb)):=i6 qK (fun Xw F H x y dx dy Q s hx hy w=>by
 unfold pL at w
 split at w
 ·exact⟨_,_,hx.1,hy.1,WP.now w s rfl⟩
 ·exact w.elim) ha hb hm
end
end L3
namespace L3
open PySem PySem.Spec L2 SeqAt HT
open PyProof.Rows hiding St
section
variable{prog:Program}{w:World}{A:Around}{E:Value→Shared→Prop}{s:Shared}
end
section
variable{X:Cx}{Xw:Nat→Hp→Prop}{a b e:Expr}{lo hi:Option Expr}{δ δa δb:DE}{pos p p2:Pos}
def WPO(Xw:Nat→Hp→Prop)(F H:Hp)(m:M (Option Int))(Q:Option Int→Hp→Prop):Prop:=
 match m with
 |none=>False
 |some (.ok b)=>∀H' F',Ext F H F' H'→Q b H'
 |some (.ex n)=>∀F' H',Ext F H F' H'→Xw n H'
theorem WPO.mono{Xw:Nat→Hp→Prop}{F H:Hp}{m:M (Option Int)}{Q Q':Option Int→Hp→Prop}(h:WPO Xw F H m Q)(k:∀v H',Q v H'→Q' v H'):WPO Xw F H m Q':=by
 match m,h with
 |none,h=>exact h
 |some (.ok d),h=>exact fun H2 F2 e2=>k _ _ (h H2 F2 e2)
 |some (.ex n),h=>exact h
def cutD(ds:List D)(lo hi:Option Int):List D:=(ds.drop (sIx ds.length 0 lo)).take (sIx ds.length ds.length hi - sIx ds.length 0 lo)
end
section
variable{prog:Program}{w:World}{A:Around}{E:Value→Shared→Prop}{s:Shared}
end
section
variable{X:Cx}{Xw:Nat→Hp→Prop}{a b e:Expr}{δ δa δb:DE}{pos p p2:Pos}
end
def L1(x:Str):It:=⟨fun i _=>i<x.cps.size,fun i H v H'=>H'=H∧∃c,x.cps[i]? =some c∧v= .str ⟨#[c]⟩,fun i _=>x.cps.size≤i⟩
theorem A0{P:Program}{w:World}{K:W.Frag}{tg:Expr}(it:Addr)(x:Str)(t:Tok):Turn P w K tg (L1 x) [it] it (fun i h=>i≤x.cps.size∧h.IsStrIter it "str_ascii_iterator" x t i) where
 mem:=by simp
 obj:=fun i h st b hb=>by
  have e:b=it:=by simpa using hb
  subst e
  obtain⟨_,o,e,c,d⟩:=st
  exact⟨o,e,fun v z=>by rw[d] at z;cases z⟩
 keep:=fun i h h' st k=>⟨st.1,let ⟨o,e,r⟩:=st.2;⟨o,k it (by simp) o e,r⟩⟩
 item:=by
  intro X hP hw hK hc i pins s σ H E I hf st hg
  subst hP hw hK
  obtain⟨f0,f1,f2,f3,f4,f5⟩:=hf it (by simp)
  have hi:i<x.cps.size:=hg
  refine(Walks.strAscii (prog:=X.prog) (w:=X.w) (I.ok.hd hc) it x t).item i s _ _ hi st.2 fun v h' tk hv lR kk=>?_
  obtain⟨c,u,Nc,rfl⟩:=hv
  have I1:Inv X pins σ H {s with heap:=h',toks:=tk}:=I.turned (fun b o hb e=>kk b o (by simpa using hb) e) f0 f1 f3 f4 f5
  obtain⟨o,e,cc,dd⟩:=id lR
  exact⟨_,rfl,nG (s:={s with heap:=h',toks:=tk}) e cc dd (by decide) ⟨.str ⟨#[c]⟩,H,I1,⟨u,rfl⟩,⟨rfl,c,Nc,rfl⟩,⟨hi,lR⟩,fun b hb=>(hf b hb).1⟩⟩
 done:=by
  intro X hP hw hK hc i pins s σ H E I hf st hg
  subst hP hw hK
  obtain⟨f0,f1,f2,f3,f4,f5⟩:=hf it (by simp)
  have hi:i=x.cps.size:=Nat.le_antisymm st.1 hg
  subst hi
  exact(Walks.strAscii (prog:=X.prog) (w:=X.w) (I.ok.hd hc) it x t).done s _ _ st.2 fun h' tk kk=>⟨rfl,I.turned (fun b o hb e=>kk b o (by simpa using hb) e) f0 f1 f3 f4 f5⟩
 self:=fun _ _ _ _ _ st h=>wpAny_pyIter_striter_ascii st.2 h
theorem A1{P:Program}{w:World}{K:W.Frag}{tg:Expr}(it:Addr)(x:Str)(t:Tok):Turn P w K tg (L1 x) [it] it (fun i h=>i≤x.cps.size∧h.IsStrIter it "str_iterator" x t i) where
 mem:=by simp
 obj:=fun i h st b hb=>by
  have e:b=it:=by simpa using hb
  subst e
  obtain⟨_,o,e,c,d⟩:=st
  exact⟨o,e,fun v z=>by rw[d] at z;cases z⟩
 keep:=fun i h h' st k=>⟨st.1,let ⟨o,e,r⟩:=st.2;⟨o,k it (by simp) o e,r⟩⟩
 item:=by
  intro X hP hw hK hc i pins s σ H E I hf st hg
  subst hP hw hK
  obtain⟨f0,f1,f2,f3,f4,f5⟩:=hf it (by simp)
  have hi:i<x.cps.size:=hg
  refine(Walks.strWide (prog:=X.prog) (w:=X.w) (I.ok.hd hc) it x t).item i s _ _ hi st.2 fun v h' tk hv lR kk=>?_
  obtain⟨c,u,Nc,rfl⟩:=hv
  have I1:Inv X pins σ H {s with heap:=h',toks:=tk}:=I.turned (fun b o hb e=>kk b o (by simpa using hb) e) f0 f1 f3 f4 f5
  obtain⟨o,e,cc,dd⟩:=id lR
  exact⟨_,rfl,nG (s:={s with heap:=h',toks:=tk}) e cc dd (by decide) ⟨.str ⟨#[c]⟩,H,I1,⟨u,rfl⟩,⟨rfl,c,Nc,rfl⟩,⟨hi,lR⟩,fun b hb=>(hf b hb).1⟩⟩
 done:=by
  intro X hP hw hK hc i pins s σ H E I hf st hg
  subst hP hw hK
  obtain⟨f0,f1,f2,f3,f4,f5⟩:=hf it (by simp)
  have hi:i=x.cps.size:=Nat.le_antisymm st.1 hg
  subst hi
  exact(Walks.strWide (prog:=X.prog) (w:=X.w) (I.ok.hd hc) it x t).done s _ _ st.2 fun h' tk kk=>⟨rfl,I.turned (fun b o hb e=>kk b o (by simpa using hb) e) f0 f1 f3 f4 f5⟩
 self:=fun _ _ _ _ _ st h=>wpAny_pyIter_striter_wide st.2 h
section
variable{X:Cx}{Xw:Nat→Hp→Prop}{tg a b e l o:Expr}{δ δa δb δo:DE}{δs:DA}{pos p p2 apos bp:Pos}
def NU(tl:TE):TI:=fun σ H R=>tl σ H fun x H1=>∃z,x= .str z∧R (L1 z) H1
theorem Jj{tl:TE}(hl:PE X l tl):PI X tg l (NU tl):=by
 intro pins s σ H R I h
 refine b5 (hl pins s σ H _ I h) fun v s1 ⟨x,H1,I1,r1,q1⟩=>?_
 obtain⟨z,e,q⟩:=q1
 subst e
 obtain⟨t,rfl⟩:=r1
 have fp:∀b∈[s1.heap.objs.size],pD X pins H1 b:=fun b hb=>by
  have e:b=s1.heap.objs.size:=by simpa using hb
  subst e
  exact I1.fpOk (Nat.le_refl _) (I1.hok.fresh (Nat.le_refl _))
 cases ha:z.cps.all (· <128)
 ·exact wpAny_pyIter_wide ha ⟨s1.heap.objs.size,[s1.heap.objs.size],_,_,H1,rfl,I1.kept (t':=s1.toks) fun b o e=>Heap.get?_push_of_some _ e,A1 _ z t,⟨Nat.zero_le _,_,Heap.get?_push_size _ rfl,rfl,rfl⟩,fp,q⟩
 ·exact wpAny_pyIter_ascii ha ⟨s1.heap.objs.size,[s1.heap.objs.size],_,_,H1,rfl,I1.kept (t':=s1.toks) fun b o e=>Heap.get?_push_of_some _ e,A0 _ z t,⟨Nat.zero_le _,_,Heap.get?_push_size _ rfl,rfl,rfl⟩,fp,q⟩
def signs(x:Str):List D:=x.cps.toList.map fun c=>D.str ⟨#[c]⟩
def o7:D→M (List D)
 | .str x=>M.ret (signs x)
 |_=>M.stuck
theorem Fe{K:W.Frag}{F:Hp}(x:Str):ItD K F (L1 x) (signs x):=fun F' H' i s1 s2=>by
 refine⟨fun d e=>?_,fun hl=>show x.cps.size≤i by simpa[signs] using hl⟩
 unfold signs at e
 rw[List.getElem?_map] at e
 cases q:x.cps.toList[i]? with
 |none=>rw[q] at e;cases e
 |some c=>
  rw[q] at e
  cases e
  have hi:i<x.cps.size:=by
   have:=(List.getElem?_eq_some_iff.mp q).1
   simpa using this
  refine⟨hi,fun v H'' y=>?_⟩
  obtain⟨e2,c',zP,rfl⟩:=y
  subst e2
  have:c'=c:=by
   have q':x.cps[i]? =some c:=by simpa using q
   rw[q'] at zP
   exact(Option.some.inj zP).symm
  subst this
  exact⟨F',Ext.refl s2,rfl,by show 1≤lim;decide⟩
theorem sR(h:PD X Xw l δ):v7 X Xw tg l (fun ρ=>δ ρ>>=o7):=PI.weak (Jj h) fun σ H R ⟨F,ρ,s,w⟩=>by
 refine⟨F,ρ,s,WP.mono (WPI.bind w) fun v H1 ⟨F1,d,e1,q1,w1⟩=>?_⟩
 cases d with
 |str z=>exact⟨z,q1.1,w1 _ _ _ (Ext.refl e1.fh) (Fe z)⟩
 |_=>exact w1.elim
end
end L3
namespace L3
open PySem PySem.Spec L2 SeqAt HT
open PyProof.Rows hiding St
open PySem.W (Frag Looks InstAt findIn mroIn)
open PySem.Builtin PySem.Builtin.ObjectAttr PySem.Builtin.Getset_descriptor
section
variable{prog:Program}{w:World}{A:Around}{E:Value→Shared→Prop}{h:Heap}{g:Array GenState}{d:Drawn}{t:Nat}{os:OsState}{x D:Addr}{ox:Obj}{K:Frag}
structure ExcC (K:Frag) (D:Addr):Prop where
 ga:findIn K (.ref D) "__getattribute__"=some (some (.builtin "BaseException.__getattribute__"))
 gt:findIn K (.ref D) "__getattr__"=some none
 ca:findIn K (.ref D) "__class__"=some (some (.builtin "object.__class__"))
 mo:mroIn K D (.type "object")=some true
 mb:mroIn K D (.type "BaseException")=some true
 cl:(PySem.W.clsIn K D).isSome=true
end
section
variable{X:Cx}{Xw:Nat→Hp→Prop}{e e2:Expr}{δs:DA}{pos p:Pos}
end
end L3
namespace L3
open PySem PySem.Spec L2 SeqAt HT
open PyProof.Rows hiding St
open PySem.W (Frag Looks findIn mroIn)
section
variable{X:Cx}{pins pn:List (Addr×Obj)}{σ:St}{H:Hp}{s:Shared}{E:Value→Shared→Prop}{ea:Addr}
end
section
variable{P:Program}{w:World}{K:W.Frag}{mg:Str→Option Value}{base:Heap}{N:List Str}{qual:Str}{scope:Scope}{f:Addr}{cd:Value}{A:Around}{outer:List Env}{s₀:Shared}{H₀:Hp}{E:XK}{cv:Nat→Value}
end
end L3
namespace L3
open PySem PySem.Spec L2 SeqAt HT
open PyProof.Rows hiding St
structure RoomH (k:Nat) (A:Around):Prop where
 dp:A.depth+3*k+5<recursionLimit
 un:A.units+16*k+200<cLine
theorem RoomH.deeper{k:Nat}{A:Around}(r:RoomH (k+1) A)(env:Env):RoomH k (A.deeper env):=
 ⟨by have:=r.dp;show A.depth+1+3*k+5<_;omega,by have:=r.un;show A.units+3+16*k+200<_;omega⟩
theorem RoomH.units{k:Nat}{A:Around}(r:RoomH k A):A.units+64<cLine:=by have:=r.un;omega
structure FnOkH (P:Program) (w:World) (K:W.Frag) (mg:Str→Option Value) (base:Heap) (k:Nat) (f:Addr) (fd:FuncData) (ps:List Str) (sp:Sp):Prop where
 len:∀vs H Q E,sp vs H Q E→vs.length=ps.length
 run:∀(A:Around) (outer:List Env) (s:Shared) (H:Hp) (args:Args) (us:List Value) (vs:List V) (Q:VK) (E:XK),RoomH k A→Env0 P w K mg base A outer s H→BindsTo s fd args (ps.zip us)→Vals vs us→sp vs H Q E→
  codeAny (model P w) A (.call (.ref f) args) (CR ME outer P w H s Q E) s
section
variable{P:Program}{w:World}{K:W.Frag}{mg:Str→Option Value}{base:Heap}{cv:Nat→Value}
end
section
variable{X:Cx}{Xw:Nat→Hp→Prop}{cv:Nat→Value}{k m:Nat}{f:Addr}{fd:FuncData}{ps:List Str}{g:List D→M D}{x:Str}{p pos:Pos}{e:Expr}{es:List Expr}{δs:DA}
end
def yk(N:List Str)(osc scope:Scope)(tn:List Str):Bool:=
 decide (scope.kind= .function)&&scope.names.all (fun y=>decide (y.2≠ .cell))&&scope.names.all (fun y=>decide (y.2= .local→scope.names.lookup y.1=some .local))&&
 scope.names.all (fun y=>decide (y.2= .free→(osc.names.lookup y.1=some .cell∨osc.names.lookup y.1=some .free)))&&
 ((bM tn N).zip N).all (fun p=>decide (scope.names.lookup p.1=none∨(p.1=p.2∧scope.names.lookup p.1=some .free)))
theorem aT{X:Cx}{N:List Str}{osc scope:Scope}{tn:List Str}(hN:X.N=N)(ho:X.env.scope=osc)(h:yk N osc scope tn=true):CompSc X scope tn:=by
 unfold yk at h
 simp only[Bool.and_eq_true,List.all_eq_true,decide_eq_true_eq] at h
 obtain⟨⟨⟨⟨h1,h2⟩,h3⟩,h4⟩,h5⟩:=h
 refine⟨h1,h2,h3,fun y hy hf=>?_,?_⟩
 ·have:=h4 y hy hf
  rw[←ho] at this
  exact this
 ·rw[hN]
  exact h5
theorem bJ{X:Cx}{x:Str}{px:Pos}{σ:St}(hN:X.N.Nodup)(h0:X.N[0]? =some x)(HQ:X.env.scope.names.lookup x=some .local):zk X (.Name x px) 0 σ:=fun pins s σ' F H d ts v u I fh hd rv q e=>by
 have e:M.ret [d]=M.ret ts:=e
 have e:=eG e
 subst e
 refine wpAny_assign_Name (vD I hN h0 (.inl HQ) rv (fun s' I'=>⟨[v],?_, .cons q .nil⟩) (.inr HQ))
 have hl:0<σ'.length:=by rw[I.len];exact(List.getElem?_eq_some_iff.mp h0).1
 have:σ'.set 0 (some v)=[v].map some++σ:=by
  cases σ' with
  |nil=>simp at hl
  |cons a r=>
   have hd:r=σ:=by simpa using hd
   subst hd
   rfl
 rw[←this]
 exact I'
theorem cu{P:Program}{w:World}{cv:Nat→Value}{X:Cx}:Passes (pZ P w cv) X (EX cv fun _ _=>False):=fun _ _ _ _ _ _ _ ⟨_,_,_,_,_,_,_,_,_,_,_,_,_,_,z⟩=>z.elim
def bz(K:W.Frag)(mg:Str→Option Value)(x:Str)(st:Stmt)(f:Addr):Prop:=mg x=some (.ref f)∧∃fd,Fun K x x st f fd
def ah(P:Program)(w:World)(K:W.Frag)(mg:Str→Option Value)(base:Heap)(cv:Nat→Value)(k:Nat)(x:Str)(m:Nat)(g:List D→M D):Prop:=
 ∃f fd ps,mg x=some (.ref f)∧PySem.W.keepIn K (.ref f)=true∧Binds K fd ps []∧FnOk P w K mg base (pZ P w cv) k f fd ps (JX K cv m g)
section
variable{X:Cx}{Xw:Nat→Hp→Prop}{cv:Nat→Value}{k m:Nat}{g:List D→M D}{x:Str}{p pos:Pos}{e:Expr}{es:List Expr}{δs:DA}
def ai(m:Nat)(g:List D→M D)(δs:DA):DE:=fun ρ=>δs ρ>>=fun ds=>if ds.length=m then g ds else M.stuck
theorem aZ(F:ah X.prog X.w X.K X.mg X.base cv k x m g)(hr:Room k X.A)(hg:Gl X x)(hx:Passes (pZ X.prog X.w cv) X (EX cv Xw))
 (ha:kP X Xw (e::es) δs)(hl:(e::es).length=m)(rS:(x==("__debug__":Str))=false:=by decide)(he:starEach (e::es) X.env=(false,eval e X.env)::starEach es X.env:=by rfl)(k8:(backTo pos (starEach es X.env)).any (·.1)=false:=by rfl):
 PD X Xw (.Call (.Name x p) (e::es) [] pos) (ai m g δs):=by
 obtain⟨f,fd,ps,h1,h2,h3,h4⟩:=F
 exact FH h4 hr hg h1 h2 h3 hx ha hl rS he k8
end
theorem ay{P:Program}{w:World}{K:W.Frag}{mg:Str→Option Value}{base:Heap}{cv:Nat→Value}{k:Nat}{x:Str}{st:Stmt}{f:Addr}{N ps:List Str}{τ:DS}(T:bz K mg x st f)(S:FnScope N ps (af st))
 (Na:∀(kV doc pm:Value) (an:Option Addr) (cj ct:Value) (us:List Value),us.length=ps.length→bindArgs (PySem.W.fnOf x x (d7 st) (bO st) (af st) .none kV doc pm an cj ct) ⟨us,[]⟩=pure (ps.zip us))
 (nH:∀(cj:Value) (A:Around) (outer:List Env) (s:Shared) (H:Hp) (E:XK),Room k (A.deeper (envOfC x (af st) s.heap.objs.size f cj))→
  PSDs (fQ (pZ P w cv) P w K mg base N x (af st) f cj A outer s H E) (fun n H'=>E (cv n) none H') (bO st) τ):ah P w K mg base cv (k+1) x ps.length (b0 N.length τ):=by
 obtain⟨h1,fd,Fn⟩:=T
 exact⟨f,fd,ps,h1,Fn.kp,Fn.binds Na,Kj Fn S nH⟩
section
variable{X:Cx}{Xw:Nat→Hp→Prop}{a e:Expr}{δ:DE}{pos:Pos}
def h7:D→M D
 | .int i=>M.ret (.int (-i))
 |_=>M.stuck
theorem oN(ha:PD X Xw a δ):PD X Xw (.UnaryOp .USub a pos) (d1 h7 δ):=PE.weak (LA JJ ha) fun σ H Q ⟨F,ρ,s,w⟩=>by
 refine⟨F,ρ,s,WP.mono (WP.bind w) fun v H1 ⟨F1,d,e1,q,w1⟩=>?_⟩
 cases d with
 |int i=>
  have q:v= .int i:=q
  subst q
  exact⟨i,rfl,WP.now w1 e1.fh rfl⟩
 |_=>exact w1.elim
end
section
variable{X:Cx}{Xw:Nat→Hp→Prop}{pos:Pos}
theorem yZ{x z:Str}(hg:Gl X x)(h:∃t,X.mg x=some (.str z t))(hz:z.length≤lim)(rS:(x==("__debug__":Str))=false:=by decide):PD X Xw (.Name x pos) (dC (.str z)):=by
 obtain⟨t,h⟩:=h
 exact yU (v:= .str z) hg h ⟨t,rfl⟩ (fun _=>⟨rfl,hz⟩) rS
theorem yV{x:Str}{i:Int}(hg:Gl X x)(h:∃t,X.mg x=some (.int i t))(rS:(x==("__debug__":Str))=false:=by decide):PD X Xw (.Name x pos) (dC (.int i)):=by
 obtain⟨t,h⟩:=h
 exact yU (v:= .int i) hg h ⟨t,rfl⟩ (fun _=>rfl) rS
end
def DI(sc osc:Scope):Scope:={sc with names:=sc.names.map fun(n,k)=>if (k== .free&&osc.kind== .function&&osc.names.lookup n==some .cell) then(n, .cell) else(n,k)}
structure Box (p:Prop):Prop where
 out:p
section
variable{X:Cx}{Xw:Nat→Hp→Prop}{a:Expr}{δa:DE}{pos:Pos}
theorem wc{st:Stmt}{rest:List Stmt}{τ τ':DS}(h1:Box (kR X Xw st τ))(h2:Box (PSDs X Xw rest τ')):Box (PSDs X Xw (st::rest) (aE τ τ')):=⟨ag h1.out h2.out⟩
theorem Hq{st:Stmt}{τ:DS}(h1:Box (kR X Xw st τ)):Box (PSDs X Xw [st] τ):=⟨aq h1.out⟩
end
theorem L0{l:PySem.W.OpenLaw}{n k:Nat}{q:Program}{loose:List Str}{XP:(Str→Option Value)→Heap→Prop}{YP:World→Heap→Prop}{d:DefRec}{K:Params→W.Frag}{x:Str}{g:List D→M D}
 (hn:l.most=some n)(Mg:n≤lim)(Kx:d.params.defaults=[])(hr:Room k callerA)
 (hY:∀(w:World) (h:Heap),YP w h→(K w.params).In h)(hg:∀ns:List Int,ns.length≤n→g [.scr ns]=M.ret (.bl true))
 (F:∀(w:World) (mg:Str→Option Value) (fa:Addr) (h:Heap),(K w.params).In h→h.Ns mainGlobals mg→mg d.name=some (.ref fa)→
  ∃(cv:Nat→Value) (fd:FuncData),(∀(s:Shared) (u:Value),BindsTo s fd ⟨[u],[]⟩ [(x,u)])∧
   ∀base:Heap,(K w.params).In base→base.Ns mainGlobals mg→FnOk l.prog w (K w.params) mg base (pZ l.prog w cv) k fa fd [x] (JX (K w.params) cv 1 g)):
 PySem.W.WalkO q loose XP YP l.row.toRowW d [] (fun f vs=>PySem.call f vs):=by
 refine Att.attach_call hn Kx fun w s₀ s₁ mg mb fa o pm cd doc a vs ns G Y ho hd v3 HS Cg hints hlen QI=>?_
 have KX:=hY w _ Y
 obtain⟨cv,fd,hb,hF⟩:=F w mg fa _ KX G.T.g HS
 refine uC KX G.T.g G.T.b G.T.builtins G.T.nolimit QI Cg hints (Nat.le_trans hlen (Nat.le_trans Mg (Nat.le_of_lt c8))) hr hF hb (fun H hO hS=>?_) fun H e s' z=>?_
 ·refine⟨H,[.scr ns],fun _ _ e=>e,⟨_,_,rfl,⟨a,rfl,hS,Nat.le_trans hlen Mg⟩,rfl⟩,rfl,?_⟩
  rw[hg ns hlen]
  exact fun v H' F' e q=>q
 ·obtain⟨_,_,_,_,_,_,_,_,_,_,_,_,_,_,y⟩:=z
theorem q0(n:Nat):(List.range n).map (fun k=>n - 1 - k)=(List.range n).reverse:=by
 apply List.ext_getElem
 ·simp
 ·intro i h1 h2
  simp at h1
  rw[List.getElem_reverse]
  simp
theorem vg{α:Type}(xs:Array α):(List.range xs.size).reverse.filterMap (fun k=>xs[k]?)=xs.toList.reverse:=by
 rw[List.filterMap_reverse]
 congr 1
 have:∀n,n≤xs.size→(List.range n).filterMap (fun k=>xs[k]?)=xs.toList.take n:=by
  intro n
  induction n with
  |zero=>intro _;rfl
  |succ n ih=>
   intro h
   have e:xs[n]? =some xs[n]:=Array.getElem?_eq_getElem (by omega)
   rw[List.range_succ,List.filterMap_append,ih (by omega),List.take_add_one]
   simp[e]
 rw[this xs.size (Nat.le_refl _),←Array.length_toList,List.take_length]
theorem jU{α β:Type}{f g:α→Option β}:∀{l:List α},(∀x∈l,f x=g x)→l.filterMap f=l.filterMap g
 |[],_=>rfl
 |a::l,h=>by rw[List.filterMap_cons,List.filterMap_cons,h a (List.mem_cons_self ..),jU fun x hx=>h x (List.mem_cons_of_mem _ hx)]
theorem xC(n:Nat):sliceRange ((n:Int) - 1) (-1) (-1)=(List.range n).reverse:=by
 rw[←q0]
 unfold sliceRange
 have e1:¬((-1:Int)>0):=by omega
 simp only[e1,if_false]
 by_cases h:(n:Int) - 1> -1
 ·simp only[h,if_true]
  have e2:((((n:Int) - 1 - -1 - -1 - 1) / (- -1)).toNat)=n:=by
   have:(n:Int) - 1 - -1 - -1 - 1=n:=by omega
   rw[this]
   simp
  rw[e2]
  refine List.map_congr_left fun k hk=>?_
  have:=List.mem_range.mp hk
  omega
 ·simp only[h,if_false]
  have:n=0:=by omega
  subst this
  rfl
def sZ(x:Str):Str:=⟨x.cps.toList.reverse.toArray⟩
theorem oY(x:Str):(sZ x).length=x.length:=by
 show x.cps.toList.reverse.toArray.size=x.cps.size
 simp
section
variable{prog:Program}{w:World}{A:Around}{E:Value→Shared→Prop}{s:Shared}
theorem CG(x:Str)(t u:Tok):sliceMade x t none none (some (-1,u))= .str (sZ x):=by
 unfold sliceMade slicePicked
 have h:¬((((some ((-1:Int),u)).map (·.1)).getD 1==1&&(Builtin.Str.strSliceIndices none none (-1) x.length).length==x.length)=true):=by
  intro q
  rw[Bool.and_eq_true] at q
  exact absurd (show ((-1:Int)==1)=true from q.1) (by decide)
 have e:Builtin.Str.strSliceIndices none none (-1) x.length=(List.range x.length).reverse:=by
  unfold Builtin.Str.strSliceIndices
  exact xC x.length
 show (if ((((some ((-1:Int),u)).map (·.1)).getD 1==1&&(Builtin.Str.strSliceIndices none none (-1) x.length).length==x.length)=true) then Made.val (.str x t) else Made.str ⟨((Builtin.Str.strSliceIndices none none (-1) x.length).filterMap (x.cps[·]?)).toArray⟩)=_
 rw[if_neg h,e]
 show Made.str ⟨((List.range x.cps.size).reverse.filterMap (x.cps[·]?)).toArray⟩=_
 rw[vg]
 rfl
theorem tW{sl:Addr}{u:Tok}{n:Nat}{Q:Int×Int×Nat→Shared→Prop}(hs:s.heap.IsSliceOf sl .none .none (.int (-1) u))(h:Q ((n:Int) - 1,-1,n) s):
 wpAny (model prog w) A (Builtin.Slice.sliceApplied (.ref sl) (pure (n:Int))) Q E s:=by
 obtain⟨os,Cj,O8,HJ⟩:=id hs
 unfold Builtin.Slice.sliceApplied Builtin.Slice.sliceFields
 refine wpAny_bind (wpAny_bind (wpAny_field Cj HJ (x:= .none) rfl (wpAny_bind (wpAny_field Cj HJ (x:= .none) rfl (wpAny_bind (wpAny_field Cj HJ (x:= .int (-1) u) rfl (wpAny_pure ?_)))))))
 refine wpAny_bind (slicePart_int ?_)
 show wpAny _ _ (if ((-1:Int)==0)=true then _ else _) _ _ s
 rw[if_neg (by decide)]
 refine wpAny_bind (slicePart_none (wpAny_bind (slicePart_none (wpAny_bind (wpAny_pure ?_)))))
 show wpAny _ _ (match Builtin.Slice.sliceAdjust none none (-1) (n:Int) with | (lo,hi)=>pure (lo,(-1:Int),Builtin.Slice.slicePlaces lo hi (-1))) _ _ s
 have e1:Builtin.Slice.sliceAdjust none none (-1) (n:Int)=((n:Int) - 1,-1):=rfl
 have e2:Builtin.Slice.slicePlaces ((n:Int) - 1) (-1) (-1)=n:=by
  unfold Builtin.Slice.slicePlaces
  have e1:¬((-1:Int)>0):=by omega
  simp only[e1,if_false]
  have e3:(- (-1:Int))=1:=by omega
  rw[e3,Int.ediv_one]
  split<;>omega
 rw[e1]
 show wpAny _ _ (pure ((n:Int) - 1,(-1:Int),Builtin.Slice.slicePlaces ((n:Int) - 1) (-1) (-1))) _ _ s
 rw[e2]
 exact wpAny_pure h
theorem jX{t sl:Addr}{items:Array Value}{u:Tok}{Q:Value→Shared→Prop}(ht:IsTup s.heap t items)(hs:s.heap.IsSliceOf sl .none .none (.int (-1) u))
 (h:Q (.ref s.heap.objs.size) {s with heap:=s.heap.push {cls:= .type "tuple",data:= .seq items.toList.reverse.toArray} })(hsz:items.size≤sizeLine):wpAny (model prog w) A (getItem (.ref t) (.ref sl)) Q E s:=by
 have hr:sizeOk (.seq items.toList.reverse.toArray):=by
  show items.toList.reverse.toArray.size≤sizeLine
  simpa using hsz
 obtain⟨os,Cj,O8,HJ⟩:=id hs
 have Qu:s.TypeIs (.ref sl) "slice":=⟨os,Cj,O8⟩
 unfold getItem
 try with_reducible refine wpAny_holding ?_
 first | refine wpAny_bind (wpAny_pure ?_) | skip
 refine wpAny_bind (wpAny_sequenceKey ht.typeIs (by decide) ?_)
 refine wpAny_bind (wpAny_callSpecial?_slot (name:=Str.ofString "__getitem__") ht.typeIs PyProof.Rows.slot_tuple_getitem
  (wpAny_call_entry PyProof.Rows.slot_tuple_getitem ht.typeIs entry_tuple_getitem ?_ (args_tuple_getitem _ _)))
 show wpAny _ _ (Builtin.Tuple.tupleItemsOf (.ref t)>>=_) _ _ s
 refine wpAny_bind (tupleItemsOf_ ht ?_)
 refine wpAny_bind (wpAny_typeOf Qu ?_)
 rw[if_pos (by decide)]
 refine wpAny_bind (tW hs ?_)
 have rW:¬((((items.size:Int) - 1)==0&&(-1:Int)==1&&items.size==items.size)=true):=by
  intro q
  rw[Bool.and_eq_true,Bool.and_eq_true] at q
  exact absurd q.1.2 (by decide)
 show wpAny _ _ (if (((items.size:Int) - 1)==0&&(-1:Int)==1&&items.size==items.size)=true then _ else _) _ _ s
 rw[if_neg rW]
 have e:((List.range items.size).filterMap fun(m:Nat)=>items[(((items.size:Int) - 1)+(m:Int)*(-1)).toNat]?).toArray=items.toList.reverse.toArray:=by
  rw[←vg,←q0,List.filterMap_map]
  congr 1
  refine jU fun k hk=>?_
  have:=List.mem_range.mp hk
  have q:(((items.size:Int) - 1)+(k:Int)*(-1)).toNat=items.size - 1 - k:=by omega
  rw[q]
  rfl
 rw[e]
 first
  |exact wpAny_bind (m:=Builtin.Tuple.tupleExact _) (wpAny_newObj_type (wpAny_pure ⟨_,rfl,wpAny_pure h⟩) hr)
  |exact wpAny_bind (m:=Builtin.Tuple.tupleExact _) (wpAny_newObj_type (wpAny_bind (wpAny_pure (wpAny_pure ⟨_,rfl,wpAny_pure h⟩))) hr)
  |exact wpAny_bind (wpAny_bind (m:=Builtin.Tuple.tupleExact _) (wpAny_newObj_type (wpAny_pure (wpAny_pure ⟨_,rfl,wpAny_pure h⟩)) hr))
  |exact wpAny_bind (wpAny_bind (m:=Builtin.Tuple.tupleExact _) (wpAny_newObj_type (wpAny_pure ⟨_,rfl,wpAny_pure h⟩) hr))
end
section
variable{X:Cx}{Xw:Nat→Hp→Prop}{e JP:Expr}{te ts:TE}{δ δs:DE}{pos p2:Pos}
def OK(X:Cx)(r:V→Hp→VK→Prop):Prop:=
 ∀(pins:List (Addr×Obj)) (s:Shared) (σ:St) (H:Hp) (x:V) (v:Value) (u:Tok) (sl:Addr) (Q:VK),Inv X pins σ H s→RelV x v→s.heap.IsSliceOf sl .none .none (.int (-1) u)→r x H Q→
  ∃T id,typeLookup (.type T) "__getitem__"=pure (some (.builtin id))∧s.TypeIs v T∧wpAny (model X.prog X.w) X.A (getItem v (.ref sl)) (EP X pins σ Q) X.xe s
theorem Je{r:V→Hp→VK→Prop}(hr:OK X r)(he:PE X e te)(hs:PE X JP ts):PE X (.Subscript e (.Slice none none (some JP) p2) pos) (fun σ H Q=>te σ H fun x H1=>ts σ H1 fun y H2=>y= .int (-1)∧r x H2 Q):=by
 intro pins s σ H Q I h
 refine Subscript_ (b5 (he pins s σ H _ I h) fun v s1 ⟨x,H1,I1,r1,q1⟩=>?_)
 refine wpAny_Slice ?_
 rw[evalPart_none]
 refine wpAny_pure (wpAny_pure ?_)
 rw[evalPart_some]
 refine b5 (hs pins s1 σ H1 _ I1 q1) fun vs s3 ⟨y,H3,I3,ry,q3⟩=>?_
 obtain⟨rfl,q3⟩:=q3
 obtain⟨u,rfl⟩:=ry
 have I4:Inv X pins σ H3 {s3 with heap:=s3.heap.push {cls:= .type "slice",data:= .fields #[.none, .none, .int (-1) u]} }:=I3.kept (t':=s3.toks) fun b ob q=>Heap.get?_push_of_some _ q
 obtain⟨T,id,hT,ht,hg⟩:=hr pins {s3 with heap:=s3.heap.push {cls:= .type "slice",data:= .fields #[.none, .none, .int (-1) u]} } σ H3 x v u s3.heap.objs.size Q I4 r1 (Heap.IsSliceOf.new ..) q3
 show wpAny (model X.prog X.w) X.A (subscriptTail e (.Slice none none (some JP) p2) v (.ref s3.heap.objs.size)) (EP X pins σ Q) X.xe {s3 with heap:=s3.heap.push {cls:= .type "slice",data:= .fields #[.none, .none, .int (-1) u]} }
 exact tail_any (ops:=[v, .ref s3.heap.objs.size]) ht hT hg (by with_unfolding_all rfl)
def Of(K:W.Frag):V→Hp→VK→Prop:=fun x H Q=>(∃z:Str,x= .str z∧z.length≤lim∧Q (.str (sZ z)) H)∨∃a xs,x= .ref a∧SqT K H a xs∧∀p,H p=none→Q (.ref p) (upd H p (.tup xs.reverse))
theorem Jw:OK X (Of X.K):=by
 intro pins s σ H x v u sl Q I rx hs h
 rcases h with⟨z,rfl,hl,q⟩ | ⟨a,xs,rfl,hx,q⟩
 ·obtain⟨t,rfl⟩:=rx
  refine⟨"str",_,PySem.F.slot_str_getitem.lookup,typeIs_str _ _ _,wpAny_getItem_str_slice (l:=none) (u:=none) (st:=some (-1,u)) hs rfl ?_⟩
  rw[CG]
  exact⟨by rw[oY];have:=c8;omega,⟨.str _,H,I.tok _,⟨_,rfl⟩,q⟩⟩
 ·cases rx
  obtain⟨aD,r,ht,hz⟩:=I.tuple hx
  have hlen:=r.length
  refine⟨"tuple",_,PyProof.Rows.slot_tuple_getitem.lookup,ht.typeIs,jX ht hs ?_ (by rw[List.size_toArray];omega)⟩
  refine⟨.ref s.heap.objs.size,_,I.laid (t':=s.toks) (o:= .tup xs.reverse) (fun b ob q=>Heap.get?_push_of_some _ q) (Nat.le_refl _) ?_,rfl,q _ (I.hok.fresh (Nat.le_refl _))⟩
  exact⟨by rw[List.length_reverse];exact hz,_,r.reverse,⟨_,Heap.get?_push_size _ rfl,rfl,by simp⟩⟩
def LP:D→M D
 | .str x=>M.ret (.str (sZ x))
 | .tup ds=>M.ret (.tup ds.reverse)
 |_=>M.stuck
def rL(a st:DE):DE:=fun ρ=>a ρ>>=fun d=>st ρ>>=fun k=>match k with
 | .int i=>if i= -1 then LP d else M.stuck
 |_=>M.stuck
theorem Dg(he:PD X Xw e δ)(hs:PD X Xw JP δs):PD X Xw (.Subscript e (.Slice none none (some JP) p2) pos) (rL δ δs):=
 PE.weak (Je Jw he hs) fun σ H Q ⟨F,ρ,s,w⟩=>by
  refine⟨F,ρ,s,WP.mono (WP.bind w) fun v H1 ⟨F1,d,e1,q1,w1⟩=>?_⟩
  refine⟨F1,ρ,s.ext e1,WP.mono (WP.bind w1) fun y H2 ⟨F2,k,e2,q2,w2⟩=>?_⟩
  have q3:=Den.mono e2.ff q1
  cases k with
  |int i=>
   have w2:WP X.K Xw F2 H2 (if i= -1 then LP d else M.stuck) Q:=w2
   split at w2
   ·rename_i hi
    subst hi
    refine⟨q2,?_⟩
    cases d with
    |str x=>exact .inl ⟨x,q3.1,q3.2,WP.now w2 e2.fh ⟨rfl,by rw[oY];exact q3.2⟩⟩
    |tup ds=>
     obtain⟨a,vs,rfl,h2,h3,h4⟩:=q3
     exact .inr ⟨a,vs,rfl,SqT.of (e2.fh _ _ h2),fun p hp=>WP.fin w2 (Ext.lay e2.fh hp) ⟨p,_,rfl,aF,DenL.mono (Ext.lay e2.fh hp).ff h3.reverse,by rw[List.length_reverse];exact h4⟩⟩
    |_=>exact w2.elim
   ·exact w2.elim
  |_=>exact w2.elim
variable{o:Expr}{δo:DE}{δl:DA}{apos bp:Pos}
def BK(x y:Str):Nat:=(Builtin.Str.occurrences x y 0 x.length (x.length+1)).length
def t7:D→List D→M D
 | .str x,[.str y]=>M.ret (.int (BK x y))
 |_,_=>M.stuck
theorem Fs:L4 X "str.count" (fun x vs H Q=>∃y z:Str,x= .str y∧vs=[.str z]∧Q (.int (BK y z)) H):=by
 intro pins s σ H x vs v us Q I rx rv h
 obtain⟨y,z,rfl,rfl,q⟩:=h
 obtain⟨t,rfl⟩:=rx
 obtain⟨u,rfl,r1⟩:=rv.one
 obtain⟨t2,rfl⟩:=r1
 exact call_gives F.slot_str_count (typeIs_str _ _ _) F.entry_str_count (F.args_str_count_2 _ _) (gives_str_count y z t t2) ⟨.int (BK y z),H,I.tok _,⟨_,rfl⟩,q⟩
theorem FK(ho:PD X Xw o δo)(ha:kP X Xw [e] δl)(g7:attributeBase o "count" X.env (eval o X.env)=eval o X.env:=by rfl)
 (nK:((backTo bp (starEach [e] X.env)).all (fun x=>!x.1)&&(backToKw bp (keywordEach [] X.env)).all (fun x=>x.1.isSome)&&decide ([e].length+([]:List Keyword).length+(if ([]:List Keyword).isEmpty then 0 else 1)<30))=true:=by rfl)
 (g8:(apos.endLine==bp.line)=true:=by rfl)(pN:starEach [e] X.env=[(false,eval e X.env)]:=by rfl):PD X Xw (.Call (.Attribute o "count" apos) [e] [] bp) (dM nQ t7 δo δl):=
 Hb PySem.F.plainAttrs_str PySem.F.slot_str_count PySem.F.type_str_count Fs Cr (fun Xw F H x vs d ds Q s hx hv w=>by
  unfold t7 at w
  split at w
  ·rename_i y z
   obtain⟨v,rfl,h1⟩:=hv.one
   exact⟨y,z,hx.1,by rw[h1.1],WP.now w s rfl⟩
  ·exact w.elim) ho ha g7 nK g8 pN rfl
end
namespace RV
theorem mro_rev:mroOf (.type "reversed")=pure [.type "reversed", .type "object"]:=by rw[mroOf_type];kernel_rfl
theorem new_rev:typeLookup (.type "reversed") "__new__"=pure (some (.builtin "reversed.__new__")):=by rw[typeLookup_type,builtinLookup_eq_fast];kernel_rfl
theorem owner_rev:Manifest.owners.lookup (String.ofList ['d', 'e', 's', 'r', 'e', 'v', 'e', 'r'].reverse)=some Manifest.sig_reversed:=by kernel_rfl
theorem slot_rev_next:Slot "reversed" "__next__" "reversed.__next__":=
 .of (owner:="reversed") (n:="__next__") (by rw[typeLookup_type,builtinLookup_eq_fast];kernel_rfl) (by decide+kernel) (by decide+kernel) (by decide+kernel)
  (by first | exact .inl (by decide+kernel) | exact .inr (by decide+kernel)) (by rw[isSubtype_type];kernel_rfl)
theorem slot_rev_iter:Slot "reversed" "__iter__" "reversed.__iter__":=
 .of (owner:="reversed") (n:="__iter__") (by rw[typeLookup_type,builtinLookup_eq_fast];kernel_rfl) (by decide+kernel) (by decide+kernel) (by decide+kernel)
  (by first | exact .inl (by decide+kernel) | exact .inr (by decide+kernel)) (by rw[isSubtype_type];kernel_rfl)
theorem slot_rev_init:Slot "reversed" "__init__" "object.__init__":=
 .of (owner:="object") (n:="__init__") (by rw[typeLookup_type,builtinLookup_eq_fast];kernel_rfl) (by decide+kernel) (by decide+kernel) (by decide+kernel)
  (by first | exact .inl (by decide+kernel) | exact .inr (by decide+kernel)) (by rw[isSubtype_type];kernel_rfl)
theorem entry_rev_next:entryFor table "reversed.__next__"=some Builtin.«reversed.__next__» :=entryFor_of_tree (by kernel_rfl)
theorem entry_rev_new:entryFor table "reversed.__new__"=some Builtin.«reversed.__new__» :=entryFor_of_tree (by kernel_rfl)
theorem entry_rev_iter:entryFor table "reversed.__iter__"=some Builtin.«dict_keyiterator.__iter__» :=
 entryFor_alias (id':="dict_keyiterator.__iter__") (by kernel_rfl) (by first | rfl | decide+kernel | (unfold String.splitOn;simp+decide [String.splitOnAux])) (by decide+kernel) (by kernel_rfl)
theorem args_rev_next(a:Value):argsOk "reversed.__next__" ⟨[a],[]⟩:=by
 unfold argsOk;rw[signature?_of (id:="reversed.__next__") (n:=['_', '_', 't', 'x', 'e', 'n', '_', '_']) (o:=['d', 'e', 's', 'r', 'e', 'v', 'e', 'r']) (by kernel_rfl) owner_rev];kernel_rfl
theorem args_rev_iter(a:Value):argsOk "reversed.__iter__" ⟨[a],[]⟩:=by
 unfold argsOk;rw[signature?_of (id:="reversed.__iter__") (n:=['_', '_', 'r', 'e', 't', 'i', '_', '_']) (o:=['d', 'e', 's', 'r', 'e', 'v', 'e', 'r']) (by kernel_rfl) owner_rev];kernel_rfl
theorem called_rev:TypeCalled "reversed" "reversed.__new__" "object.__init__":=
 ⟨by decide+kernel,by decide+kernel,⟨_,_,mro_rev⟩,madeBy_type mro_rev new_rev (by decide+kernel),by decide+kernel,by rw[isSubtype_type];kernel_rfl,slot_rev_init⟩
theorem typeCall_rev(a:Value):checkTypeCall "reversed" ⟨[a],[]⟩=pure ():=by kernel_rfl
theorem newCall_rev(a:Value):checkBuiltinCall "reversed.__new__" ⟨[.type "reversed",a],[]⟩=pure ():=by kernel_rfl
theorem no_rev_tuple:typeLookup (.type "tuple") "__reversed__"=pure none:=by rw[typeLookup_type,builtinLookup_eq_fast];kernel_rfl
theorem tuple_not_dict:isSubtype (.type "tuple") (.type "dict")=pure false:=by rw[isSubtype_type];kernel_rfl
theorem newClass_rev(a:Value):Builtin.SmallTypes.newClass "reversed" ⟨[.type "reversed",a],[]⟩=pure (.type "reversed",[a]):=by
 unfold Builtin.SmallTypes.newClass
 simp only[isType,called_rev.sub,pure_bind,Bool.not_true,Bool.false_eq_true,if_false]
end RV
def tK(t:Addr)(i:Int):Obj:={cls:= .type "reversed",data:= .fields #[.ref t,rawInt i]}
def IsTupRev(h:Heap)(it t:Addr)(i:Int):Prop:=∃o,h.get? it=some o∧o.cls= .type "reversed"∧o.data= .fields #[.ref t,rawInt i]
theorem AR{i n:Nat}(h:i<n):seqIndex? (i:Int) n=some i:=by
 have h1:¬((i:Int)<0):=by omega
 have h2:(decide (0≤(i:Int))&&decide ((i:Int)<(n:Int)))=true:=by simp;omega
 unfold seqIndex?
 simp only[h1,if_false]
 rw[if_pos h2]
 simp
section
variable{prog:Program}{w:World}{A:Around}{E:Value→Shared→Prop}{s:Shared}
theorem Ae(t:Addr)(items:Array Value)(hsz:items.size<2 ^ 62):
 Meets (Builtin.«reversed.__new__» ⟨[.type "reversed", .ref t],[]⟩) (fun _ R s=>IsTup s.heap t items∧∀tk,R (.ok (.ret (.ref s.heap.objs.size))) {s with heap:=s.heap.push (tK t ((items.size:Int) - 1)),toks:=tk}):=
 .of_wp fun prog w A R s h=>by
  obtain⟨ht,h⟩:=h
  unfold Builtin.«reversed.__new__»
  refine wpAny_bind (wpAny_of_eq (RV.newClass_rev _) ?_)
  try dsimp only
  refine wpAny_bind (wpAny_of_eq (a:=()) (by first | rfl | kernel_rfl) ?_)
  refine wpAny_bind (wpAny_of_eq (a:=()) (by first | rfl | kernel_rfl) ?_)
  try dsimp only
  refine wpAny_bind (wpAny_specialOf ht.typeIs RV.no_rev_tuple ?_)
  try dsimp only
  refine wpAny_bind ?_
  refine wpAny_bind (m:=isInstance (.ref t) (.type "dict")) (wpAny_isInstance (T:="tuple") (b:=false) ht.typeIs RV.tuple_not_dict ?_)
  refine wpAny_bind (m:=specialOf (.ref t) "__getitem__") (wpAny_specialOf ht.typeIs slot_tuple_getitem.lookup ?_)
  refine wpAny_pure ?_
  refine wpAny_bind (m:=call (.builtin "len") [.ref t]) (len_tuple ht (by omega) ?_)
  refine wpAny_bind (wpAny_of_eq (a:=some (items.size:Int)) (by first | rfl | kernel_rfl) ?_)
  refine wpAny_bind (m:=newObj (.type "reversed") (.fields #[.ref t,rawInt ((items.size:Int) - 1)])) (wpAny_newObj_type ?_ (by size_fits))
  exact wpAny_pure ⟨_,rfl,h _⟩
theorem jf{t:Addr}{items:Array Value}{Q:Value→Shared→Prop}(ht:IsTup s.heap t items)(hsz:items.size<2 ^ 62)
 (h:∀tk,Q (.ref s.heap.objs.size) {s with heap:=s.heap.push (tK t ((items.size:Int) - 1)),toks:=tk}):wpAny (model prog w) A (call (.type "reversed") [.ref t]) Q E s:=
 callType_new RV.called_rev (by decide) (RV.typeCall_rev _) (RV.newCall_rev _) (fun obj=>F.args_object_init_2 obj _) RV.entry_rev_new (Ae t items hsz) ⟨ht,fun tk=>⟨⟨_,Heap.get?_push_size _ rfl,rfl⟩,h tk⟩⟩
theorem IsTupRev.typeIs{it t:Addr}{i:Int}(x:IsTupRev s.heap it t i):s.TypeIs (.ref it) "reversed":=let ⟨o,ho,hc,_⟩:=x;⟨o,ho,hc⟩
theorem IsTupRev.at{h h':Heap}{it t:Addr}{i:Int}(x:IsTupRev h it t i)(e:∀o,h.get? it=some o→h'.get? it=some o):IsTupRev h' it t i:=let ⟨o,ho,r⟩:=x;⟨o,e _ ho,r⟩
theorem pP{it t:Addr}{i:Nat}{items:Array Value}{x:Value}{Q:Option Value→Shared→Prop}(hit:IsTupRev s.heap it t (i:Int))(ht:IsTup s.heap t items)(hx:items[i]? =some x)(hb:items.size<2 ^ 62)
 (hQ:∀h' tk,IsTupRev h' it t ((i:Int) - 1)→Heap.SameBut it s.heap h'→Q (some x) {s with heap:=h',toks:=tk}):wpAny (model prog w) A (pyNext (.ref it)) Q E s:=by
 obtain⟨o,ho,hc,hd⟩:=id hit
 have hi:i<items.size:=(Array.getElem?_eq_some_iff.mp hx).1
 unfold pyNext
 refine wpAny_bind (wpAny_attempt (wpAny_callSpecial?_slot (name:=Str.ofString "__next__") hit.typeIs RV.slot_rev_next
  (wpAny_call_entry RV.slot_rev_next hit.typeIs RV.entry_rev_next ?_ (RV.args_rev_next _))))
 unfold Builtin.«reversed.__next__»
 refine wpAny_bind (wpAny_of_eq (a:=(Value.ref it,[])) rfl ?_)
 try dsimp only
 refine wpAny_bind (wpAny_field ho hd (x:= .ref t) rfl ?_)
 refine wpAny_bind (wpAny_field ho hd (x:=rawInt (i:Int)) rfl ?_)
 show wpAny _ _ (if (i:Int)<0 then _ else _) _ _ s
 rw[if_neg (by omega)]
 refine wpAny_bind (m:=specialOf (.ref t) "__getitem__") (wpAny_specialOf ht.typeIs slot_tuple_getitem.lookup ?_)
 refine wpAny_bind (wpAny_mkInt ?_)
 refine wpAny_bind (wpAny_attempt (getItem_tuple (s:={s with toks:=s.toks+1}) ht (by omega) (by omega) (j:=i) (AR hi) hx ?_))
 try dsimp only
 refine wpAny_bind (wpAny_field (s:={s with toks:=s.toks+1}) ho hd (x:=rawInt (i:Int)) rfl ?_)
 refine wpAny_bind (wpAny_setField (s:={s with toks:=s.toks+1}) ho hd (by simp) ?_)
 first
 |refine wpAny_pure ⟨x,rfl,wpAny_pure (hQ _ _ ?_ (Heap.SameBut.update ..))⟩
 |refine wpAny_bind (wpAny_pure (wpAny_pure ⟨x,rfl,wpAny_pure (hQ _ _ ?_ (Heap.SameBut.update ..))⟩))
 exact⟨_,Heap.get?_update_self _ ho (Obj.isFreed_of_fields (Obj.data_mapFields hd _)),(Obj.cls_mapFields ..).trans hc,by
  rw[Obj.data_mapFields hd];simp⟩
theorem sm{it t:Addr}{k:Int}{Q:Option Value→Shared→Prop}(hh:A.handled=none)(hit:IsTupRev s.heap it t k)(hk:k<0)
 (hQ:∀h',Heap.ExtBut it s.heap h'→Q none {s with heap:=h'}):wpAny (model prog w) A (pyNext (.ref it)) Q E s:=by
 obtain⟨o,ho,hc,hd⟩:=id hit
 unfold pyNext
 refine wpAny_bind (wpAny_attempt (wpAny_callSpecial?_slot (name:=Str.ofString "__next__") hit.typeIs RV.slot_rev_next
  (wpAny_call_entry RV.slot_rev_next hit.typeIs RV.entry_rev_next ?_ (RV.args_rev_next _))))
 unfold Builtin.«reversed.__next__»
 refine wpAny_bind (wpAny_of_eq (a:=(Value.ref it,[])) rfl ?_)
 try dsimp only
 refine wpAny_bind (wpAny_field ho hd (x:= .ref t) rfl ?_)
 refine wpAny_bind (wpAny_field ho hd (x:=rawInt k) rfl ?_)
 show wpAny _ _ (if k<0 then _ else _) _ _ s
 rw[if_pos hk]
 refine wpAny_bind (wpAny_rule ?_)
 refine wpAny_bind ?_
 refine wpAny_bind (m:=setField (.ref it) 1 (rawInt (-1))) (wpAny_setField ho hd (by simp) ?_)
 refine wpAny_setField (Heap.get?_update_self _ ho (Obj.isFreed_of_fields (Obj.data_mapFields hd _))) (Obj.data_mapFields hd _) (by simp) ?_
 dsimp only
 have hx:Heap.ExtBut it s.heap ((s.heap.update it (Obj.mapFields fun x=>x.setIfInBounds 1 (rawInt (-1)))).update it (Obj.mapFields fun x=>x.setIfInBounds 0 Value.none)):=fun b ob hb e=>
  ((Heap.SameBut.update ..).2 b hb).trans (((Heap.SameBut.update ..).2 b hb).trans e)
 revert hx
 generalize (s.heap.update it (Obj.mapFields fun x=>x.setIfInBounds 1 (rawInt (-1)))).update it (Obj.mapFields fun x=>x.setIfInBounds 0 Value.none)=h2
 intro hx
 refine wpAny_bind ?_
 show wpAny _ _ (newExc (.type "StopIteration") []>>=_) _ _ _
 refine wpAny_bind ?_
 simp only[newExc,newTuple]
 refine wpAny_bind (wpAny_newObj_type ?_ (by size_fits))
 refine wpAny_bind (m:=firstArgMember _ _) (wpAny_of_eq (a:=Value.none) (by first | rfl | (simp only[firstArgMember];rfl)) ?_)
 refine wpAny_newObj_type ?_ (by size_fits)
 simp only[raiseNew]
 refine wpAny_bind (wpAny_handled ?_)
 first | rw[show A.in1.handled=none from hh] | rw[hh]
 refine wpAny_bind (wpAny_pure (wpAny_throw ?_))
 refine wpAny_bind (wpAny_isInstance (T:="StopIteration") (b:=true) ⟨_,Heap.get?_push_size _ rfl,rfl⟩ isSubtype_stop ?_)
 exact wpAny_pure (hQ _ ((hx.push _).push _))
theorem uy{it t:Addr}{i:Int}{Q:Value→Shared→Prop}(hit:IsTupRev s.heap it t i)(h:Q (.ref it) s):wpAny (model prog w) A (pyIter (.ref it)) Q E s:=by
 refine wpAny_pyIter_slot hit.typeIs RV.slot_rev_iter (wpAny_call_entry RV.slot_rev_iter hit.typeIs RV.entry_rev_iter ?_ (RV.args_rev_iter _))
 show wpAny _ _ (ret (.ref it)) _ _ s
 exact wpAny_pure ⟨_,rfl,"reversed",_,hit.typeIs,RV.slot_rev_next.lookup,h⟩
end
def OH(K:W.Frag)(a:Addr)(n:Nat):It:=
 ⟨fun i H=>∃xs x,SqT K H a xs∧xs.length=n∧xs.reverse[i]? =some x,fun i H x H'=>H'=H∧∀xs,SqT K H a xs→xs.reverse[i]? =some x,fun i H=>n≤i⟩
theorem Eg{P:Program}{w:World}{K:W.Frag}{tg:Expr}(a it:Addr)(n:Nat):Turn P w K tg (OH K a n) [it] it (fun i h=>IsTupRev h it a ((n:Int) - 1 - (i:Int))) where
 mem:=by simp
 obj:=fun i h st b hb=>by
  have e:b=it:=by simpa using hb
  subst e
  obtain⟨o,e,c,d⟩:=st
  exact⟨o,e,fun v z=>by rw[d] at z;cases z⟩
 keep:=fun i h h' st k=>st.at fun o e=>k it (by simp) o e
 item:=by
  intro X hP hw hK hc i pins s σ H E I hf st hg
  subst hP hw hK
  obtain⟨xs,x,hq,hn,hx⟩:=hg
  obtain⟨aD,rv,p,hz⟩:=I.tuple hq
  have hi:i<n:=by
   have:=(List.getElem?_eq_some_iff.mp hx).1
   rw[List.length_reverse] at this
   omega
  rw[List.getElem?_reverse (by omega)] at hx
  obtain⟨u,hu,ru⟩:=rv.get hx
  obtain⟨f0,f1,f2,f3,f4,f5⟩:=hf it (by simp)
  have hl:=rv.length
  have hs:sizeLine=16777216:=sizeLine_eq
  have e:(n:Int) - 1 - (i:Int)=((xs.length - 1 - i:Nat):Int):=by omega
  have st:=st
  rw[e] at st
  refine pP st p (x:=u) (by simpa using hu) (by rw[List.size_toArray];omega) fun h' tk lR sb=>?_
  have I1:Inv X pins σ H {s with heap:=h',toks:=tk}:=I.turned (fun b o hb e=>(sb.2 b hb).trans e) f0 f1 f3 f4 f5
  obtain⟨o,e1,c,d⟩:=id lR
  refine⟨u,rfl,nG (s:={s with heap:=h',toks:=tk}) e1 c d (by decide) ⟨x,H,I1,ru,⟨rfl,fun ys hy=>?_⟩,?_,fun b hb=>(hf b hb).1⟩⟩
  ·rw[I.tuple_inj hy hq,List.getElem?_reverse (by omega)]
   exact hx
  ·have e2:((xs.length - 1 - i:Nat):Int) - 1=(n:Int) - 1 - ((i+1:Nat):Int):=by omega
   rw[e2] at lR
   exact lR
 done:=by
  intro X hP hw hK hc i pins s σ H E I hf st hg
  subst hP hw hK
  obtain⟨f0,f1,f2,f3,f4,f5⟩:=hf it (by simp)
  have hg:n≤i:=hg
  exact sm (I.ok.hd hc) st (by omega) fun h' eb=>⟨rfl,I.turned (t':=s.toks) (fun b o hb e=>eb b o hb e) f0 f1 f3 f4 f5⟩
 self:=fun _ _ _ _ _ st h=>uy st h
theorem Fd{K:W.Frag}{F:Hp}{a:Addr}{vs:List V}{ds:List D}(h:SqT K F a vs)(hd:DenL K F ds vs):ItD K F (OH K a vs.length) ds.reverse:=fun F' H' i s1 s2=>by
 have hs:=Same.tup s2 (Same.tup s1 h)
 refine⟨fun d e=>?_,fun hl=>by rw[List.length_reverse,hd.len] at hl;exact hl⟩
 obtain⟨v,e1,q⟩:=hd.reverse.get e
 refine⟨⟨vs,v,hs,rfl,e1⟩,fun x H'' y=>?_⟩
 obtain⟨e2,y⟩:=y
 subst e2
 have:=y vs hs
 rw[e1] at this
 cases this
 exact⟨F',Ext.refl s2,Den.mono s1 q⟩
section
variable{X:Cx}{Xw:Nat→Hp→Prop}{tg e:Expr}{es:List Expr}{δ δi:DE}{δs:DA}{pos p:Pos}
def DK:List D→M (List D)
 |[.tup ds]=>M.ret ds.reverse
 |_=>M.stuck
theorem FO(hg:Gl X "reversed")(hm:X.mg "reversed"=none)(ha:kP X Xw [e] δs)(hs:starEach [e] X.env=[(false,eval e X.env)]:=by rfl):v7 X Xw tg (.Call (.Name "reversed" p) [e] [] pos) (fun ρ=>δs ρ>>=DK):=by
 intro pins s σ H R I ⟨F,ρ,S,w⟩
 refine Call_ (dZ I hg hm boot_reversed (PyProof.Rows.callWith_type1 (b5 (ha pos pins s σ H (fun vs H1=>∃F1 ds,Ext F H F1 H1∧DenL X.K F1 ds vs∧WPI X.K Xw F1 H1 (DK ds) R) I ⟨F,ρ,S,WPI.bindL w⟩) fun us s1 ⟨vs,H1,I1,r1,F1,ds,e1,q1,w1⟩=>?_) hs rfl))
 unfold DK at w1
 split at w1
 ·rename_i ds
  obtain⟨v,rfl,h1⟩:=q1.one
  obtain⟨a,xs,rfl,h2,h3,h4⟩:=h1
  obtain⟨u,rfl,r2⟩:=r1.one
  cases (show u=_ from r2)
  obtain⟨aD,rv,pt,hz⟩:=I1.tuple (SqT.of (K:=X.K) (e1.fh _ _ h2))
  have hl:=rv.length
  have ur:sizeLine=16777216:=sizeLine_eq
  refine jf pt (by rw[List.size_toArray];omega) fun tk=>?_
  have en:((aD.toArray.size:Nat):Int) - 1=(xs.length:Int) - 1 - ((0:Nat):Int):=by rw[List.size_toArray];omega
  have PJ:IsTupRev (s1.heap.push (tK a (((aD.toArray.size:Nat):Int) - 1))) s1.heap.objs.size a ((xs.length:Int) - 1 - ((0:Nat):Int)):=⟨_,Heap.get?_push_size _ rfl,rfl,by rw[←en];rfl⟩
  refine uy (s:={s1 with heap:=s1.heap.push (tK a (((aD.toArray.size:Nat):Int) - 1)),toks:=tk}) PJ ?_
  refine⟨s1.heap.objs.size,[s1.heap.objs.size],_,_,H1,rfl,I1.kept (t':=tk) fun b o e=>Heap.get?_push_of_some _ e,Eg a _ xs.length,PJ,fun b hb=>?_,w1 _ _ _ (Ext.refl e1.fh) (Fd (SqT.of h2) h3)⟩
  have e:b=s1.heap.objs.size:=by simpa using hb
  subst e
  exact I1.fpOk (Nat.le_refl _) (I1.hok.fresh (Nat.le_refl _))
 ·exact w1.elim
end
end L3
namespace L3
open PySem PySem.Spec L2 SeqAt HT
open PyProof.Rows hiding St
def wQ:D→Option Key
 | .int i=>some (.inl i)
 | .str x=>some (.inr x)
 |_=>none
def r9:List D→Option (List Key)
 |[]=>some []
 |d::ds=>match wQ d,r9 ds with
  |some k,some ks=>some (k::ks)
  |_,_=>none
def eu:D→Option (List Key)
 | .tup ds=>r9 ds
 |_=>none
theorem nV{K:W.Frag}{F:Hp}{d:D}{v:V}{k:Key}(e:wQ d=some k)(h:Den K F d v):v=kV k:=by
 cases d<;>first | cases e | skip
 ·exact h
 ·exact h.1
theorem g_{K:W.Frag}{F:Hp}:∀{ds:List D}{vs:List V}{ks:List Key},r9 ds=some ks→DenL K F ds vs→vs=ks.map kV
 |[],_,_,e,h=>by cases e;exact h
 |d::ds,_,_,e,⟨v,r,h1,h2,h3⟩=>by
  unfold r9 at e
  split at e
  ·rename_i k ks e1 e2
   cases e
   subst h1
   rw[List.map_cons,nV e1 h2,g_ e2 h3]
  ·cases e
section
variable{κ:Type}[DecidableEq κ]
def eJ:List κ→List D→κ→Option D
 |k'::ks,d::ds,k=>if k'=k then some d else eJ ks ds k
 |_,_,_=>none
def lK:List κ→List D→κ→D→List D
 |k'::ks,d'::ds,k,d=>(if k'=k then d else d')::lK ks ds k d
 |_,_,_,_=>[]
theorem kL{K:W.Frag}{F:Hp}:∀{ks:List κ}{ds:List D}{vs:List V}(k:κ),DenL K F ds vs→ks.length=ds.length→
 (match eJ ks ds k with | some d=>∃v,jh (ks.zip vs) k=some v∧Den K F d v | none=>jh (ks.zip vs) k=none)
 |[],[],_,_,_,_=>rfl
 |k'::ks,d::ds,_,k,⟨v,r,h1,h2,h3⟩,hl=>by
  subst h1
  unfold eJ
  rw[List.zip_cons_cons]
  by_cases e:k'=k
  ·rw[if_pos e,kN (p:=(k',v)) e]
   exact⟨v,rfl,h2⟩
  ·rw[if_neg e,iO (p:=(k',v)) e]
   exact kL k h3 (by simpa using hl)
 |[],_::_,_,_,_,hl=>by simp at hl
 |_::_,[],_,_,_,hl=>by simp at hl
theorem iN{K:W.Frag}{F:Hp}{ks:List κ}{ds:List D}{vs:List V}(k:κ)(h:DenL K F ds vs)(hl:ks.length=ds.length):(jh (ks.zip vs) k).isSome=(eJ ks ds k).isSome:=by
 have:=kL k h hl
 split at this
 ·rename_i d e
  obtain⟨v,e1,_⟩:=this
  rw[e1,e];rfl
 ·rename_i e
  rw[this,e]
  rfl
theorem vm{K:W.Frag}{F:Hp}{d:D}{v:V}(hd:Den K F d v):∀{ks:List κ}{ds:List D}{vs:List V}(k:κ),DenL K F ds vs→ks.length=ds.length→
 ∃ws,(ks.zip vs).map (fun kv=>if kv.1=k then(kv.1,v) else kv)=ks.zip ws∧DenL K F (lK ks ds k d) ws
 |[],[],_,_,h,_=>⟨[],rfl,rfl⟩
 |k'::ks,d'::ds,_,k,⟨v',r,h1,h2,h3⟩,hl=>by
  subst h1
  obtain⟨ws,e1,e2⟩:=vm hd k h3 (by simpa using hl)
  by_cases e:k'=k
  ·refine⟨v::ws,?_,?_⟩
   ·rw[List.zip_cons_cons,List.map_cons,e1,if_pos e];rfl
   ·unfold lK;rw[if_pos e];exact .cons hd e2
  ·refine⟨v'::ws,?_,?_⟩
   ·rw[List.zip_cons_cons,List.map_cons,e1,if_neg e];rfl
   ·unfold lK;rw[if_neg e];exact .cons h2 e2
 |[],_::_,_,_,_,hl=>by simp at hl
 |_::_,[],_,_,_,hl=>by simp at hl
theorem iu:∀(ks:List κ) (ds:List D) (k:κ) (d:D),ks.length=ds.length→(lK ks ds k d).length=ds.length
 |[],[],_,_,_=>rfl
 |_::ks,_::ds,k,d,h=>by unfold lK;rw[List.length_cons,List.length_cons,iu ks ds k d (by simpa using h)]
 |[],_::_,_,_,h=>by simp at h
 |_::_,[],_,_,h=>by simp at h
def c6(ks:List κ)(ds:List D)(k:κ):List κ:=if (eJ ks ds k).isSome then ks else ks++[k]
def cx(ks:List κ)(ds:List D)(k:κ)(d:D):List D:=if (eJ ks ds k).isSome then lK ks ds k d else ds++[d]
theorem sU{K:W.Frag}{F:Hp}{d:D}{v:V}(hd:Den K F d v){ks:List κ}{ds:List D}{vs:List V}(k:κ)(h:DenL K F ds vs)(hl:ks.length=ds.length):
 ∃ws,putK (ks.zip vs) k v=(c6 ks ds k).zip ws∧DenL K F (cx ks ds k d) ws∧(c6 ks ds k).length=(cx ks ds k d).length:=by
 have hs:=iN (K:=K) (F:=F) k h hl
 unfold putK c6 cx
 have ha:((ks.zip vs).any fun kv=>decide (kv.1=k))=(jh (ks.zip vs) k).isSome:=kM ..
 rw[ha,hs]
 cases e:(eJ ks ds k).isSome with
 |true=>
  rw[if_pos rfl,if_pos rfl,if_pos rfl]
  obtain⟨ws,e1,e2⟩:=vm hd k h hl
  exact⟨ws,e1,e2,by rw[iu ks ds k d hl];exact hl⟩
 |false=>
  rw[if_neg Bool.false_ne_true,if_neg Bool.false_ne_true,if_neg Bool.false_ne_true]
  refine⟨vs++[v],?_,h.append (.cons hd .nil),by simp[hl]⟩
  rw[List.zip_append (by rw[hl];exact h.len)]
  rfl
end
theorem zj{κ:Type}{K:W.Frag}{F:Hp}{ks:List κ}{ds:List D}{vs:List V}(h:DenL K F ds vs)(hl:ks.length=ds.length):(ks.zip vs).length=ds.length:=by
 rw[List.length_zip,hl,←h.len];omega
def o8(ρ:a9)(i:Nat):Option D:=match ρ[i]? with
 |some (some (.fz d))=>some d
 |some (some (.ow c))=>some c.d
 |_=>none
theorem D5{K:W.Frag}{F H:Hp}{σ:St}{ρ:a9}{i:Nat}{ks:List (List Key)}{ds:List D}(s:StE K F H σ ρ)(e:o8 ρ i=some (.dct ks ds)):
 ∃a vs,σ[i]? =some (some (.ref a))∧Rd H a (.dT (ks.zip vs))∧DenL K F ds vs∧ks.length=ds.length∧ds.length≤lim:=by
 unfold o8 at e
 split at e
 ·rename_i d e1
  cases e
  obtain⟨v,h1,a,ob,vs,rfl,h2,h3,h4,h5⟩:=s.den i _ e1
  exact⟨a,vs,h1, .inr ⟨ob,s.fh _ _ h2⟩,h3,h4,h5⟩
 ·rename_i c e1
  cases c<;>cases e
  obtain⟨v,h1,a,o,rfl,h2,_,vs,rfl,h3,h4,h5⟩:=s.den i _ e1
  exact⟨a,vs,h1, .inl h2,h3,h4,h5⟩
 ·cases e
theorem D4{K:W.Frag}{F H:Hp}{σ:St}{ρ:a9}{i:Nat}{ks:List Key}{ds:List D}(s:StE K F H σ ρ)(e:o8 ρ i=some (.dci ks ds)):
 ∃a vs,σ[i]? =some (some (.ref a))∧Rd H a (.dK (ks.zip vs))∧DenL K F ds vs∧ks.length=ds.length∧ds.length≤lim:=by
 unfold o8 at e
 split at e
 ·rename_i d e1
  cases e
  obtain⟨v,h1,a,ob,vs,rfl,h2,h3,h4,h5⟩:=s.den i _ e1
  exact⟨a,vs,h1, .inr ⟨ob,s.fh _ _ h2⟩,h3,h4,h5⟩
 ·rename_i c e1
  cases c<;>cases e
  obtain⟨v,h1,a,o,rfl,h2,_,vs,rfl,h3,h4,h5⟩:=s.den i _ e1
  exact⟨a,vs,h1, .inl h2,h3,h4,h5⟩
 ·cases e
def Bc:D→D→Option (Option D)
 | .dct ks ds,k=>(eu k).map (eJ ks ds)
 | .dci ks ds,k=>(wQ k).map (eJ ks ds)
 |_,_=>none
theorem ye{K:W.Frag}{F H:Hp}{σ:St}{ρ:a9}{i:Nat}{d k:D}{y:V}{o:Option D}(s:StE K F H σ ρ)(hi:o8 ρ i=some d)(hk:Den K F k y)(e:Bc d k=some o):
 ∃a ov,σ[i]? =some (some (.ref a))∧pC H a y ov∧ov.isSome=o.isSome∧∀d',o=some d'→∃v,ov=some v∧Den K F d' v:=by
 unfold Bc at e
 split at e
 ·rename_i ks ds
  cases q:eu k with
  |none=>rw[q] at e;cases e
  |some kk=>
   rw[q] at e
   cases e
   obtain⟨a,vs,h1,h2,h3,h4,h5⟩:=D5 s hi
   unfold eu at q
   split at q
   ·rename_i es
    obtain⟨b,ws,rfl,k2,k3,_⟩:=hk
    have e1:=g_ q k3
    subst e1
    refine⟨a,_,h1, .inr ⟨_,kk,b,h2,rfl,s.fh _ _ k2,rfl⟩,iN kk h3 h4,fun d' pA=>?_⟩
    have:=kL (K:=K) (F:=F) kk h3 h4
    rw[pA] at this
    exact this
   ·cases q
 ·rename_i ks ds
  cases q:wQ k with
  |none=>rw[q] at e;cases e
  |some kk=>
   rw[q] at e
   cases e
   obtain⟨a,vs,h1,h2,h3,h4,h5⟩:=D4 s hi
   have e1:=nV q hk
   subst e1
   refine⟨a,_,h1, .inl ⟨_,kk,h2,rfl,rfl⟩,iN kk h3 h4,fun d' pA=>?_⟩
   have:=kL (K:=K) (F:=F) kk h3 h4
   rw[pA] at this
   exact this
 ·cases e
section
variable{X:Cx}{Xw:Nat→Hp→Prop}{a b:Expr}{δa δb:DE}{pos:Pos}
theorem Lw(ha:PD X Xw a δa)(hb:PD X Xw b δb):PD X Xw (.Compare a [.LtE] [b] pos) (d2 OU δa δb):=xq oA (yQ fun _ _ _=>rfl) ha hb
end
section
variable{X:Cx}{Xw:Nat→Hp→Prop}{a e:Expr}{δ δk δv:DE}{pos p pos' eY apos bp:Pos}{x:Str}{i:Nat}
def Kd(neg:Bool)(i:Nat)(δ:DE):DE:=fun ρ=>δ ρ>>=fun k=>match o8 ρ i with
 |some d=>match Bc d k with
  |some o=>M.ret (.bl (if neg then !o.isSome else o.isSome))
  |none=>M.stuck
 |none=>M.stuck
theorem Ii{neg:Bool}{σ:St}{H:Hp}{Q:VK}(h:tD X.K Xw (Kd neg i δ) σ H Q):(fun σ H Q=>tD X.K Xw δ σ H fun y H1=>o_ i σ H1 fun x H2=>∃a o,x= .ref a∧pC H2 a y o∧Q (.bl (if neg then !o.isSome else o.isSome)) H2) σ H Q:=by
 obtain⟨F,ρ,s,w⟩:=h
 refine⟨F,ρ,s,WP.mono (WP.bind w) fun y H1 ⟨F1,k,e1,q1,w1⟩=>?_⟩
 have s1:=s.ext e1
 cases hi:o8 ρ i with
 |none=>rw[hi] at w1;exact w1.elim
 |some d=>
  rw[hi] at w1
  have w1:WP X.K Xw F1 H1 (match Bc d k with | some o=>M.ret (.bl (if neg then !o.isSome else o.isSome)) | none=>M.stuck) Q:=w1
  cases he:Bc d k with
  |none=>rw[he] at w1;exact w1.elim
  |some o=>
   rw[he] at w1
   obtain⟨a,ov,h1,h2,h3,_⟩:=ye s1 hi q1 he
   refine⟨.ref a,h1,a,ov,rfl,h2,?_⟩
   rw[h3]
   exact WP.now w1 e1.fh rfl
theorem Oc(hu:X.A.units+64<cLine)(ha:PD X Xw a δ)(hv:PE X (.Name x p) (o_ i))(hm:behindInMarks .In (.Name x p)=false:=by rfl):PD X Xw (.Compare a [.In] [.Name x p] pos) (Kd false i δ):=
 PE.weak (I_ (IV (by omega) ha hv) hm) fun σ H Q h=>Ii (neg:=false) h
def za(i:Nat):DS:=fun ρ=>M.ret (.nx (ρ.set i (some (.ow (.dct [] [])))))
theorem oT(hN:X.N.Nodup)(hi:X.N[i]? =some x)(hx:Loc X.env.scope x)(hf:X.fn x=true∨X.env.scope.names.lookup x=some .local:=by first | exact .inl rfl | exact .inr rfl):
 kR X Xw (.Assign [.Name x pos'] (.Dict [] [] eY) pos) (za i):=fun F₀ H₀=>PS.weak (sT Dq (bj hN hi hx hf) rfl) fun D σ H ⟨F,ρ,s,w⟩=>fun q hq=>
 w _ F _ (s.setNew (c₀:= .dct [] []) hq ⟨[],rfl,rfl,rfl,Nat.zero_le _⟩)
def lF:C→D→D→Option C
 | .dct ks ds,k,d=>match eu k with
   |some kk=>if ds.length<lim then some (.dct (c6 ks ds kk) (cx ks ds kk d)) else none
   |none=>none
 | .dci ks ds,k,d=>match wQ k with
   |some kk=>if ds.length<lim then some (.dci (c6 ks ds kk) (cx ks ds kk d)) else none
   |none=>none
 |_,_,_=>none
def xo(ρ:a9)(i:Nat):Option C:=match ρ[i]? with
 |some (some (.ow c))=>some c
 |_=>none
theorem qL{ρ:a9}{i:Nat}{c:C}(h:xo ρ i=some c):ρ[i]? =some (some (.ow c)):=by
 unfold xo at h
 split at h
 ·rename_i c' e
  cases h
  exact e
 ·cases h
def jq(i:Nat)(δk δv:DE):DS:=fun ρ=>match xo ρ i with
 |some c=>δv ρ>>=fun v=>δk ρ>>=fun k=>match lF c k v with
  |some c'=>M.ret (.nx (ρ.set i (some (.ow c'))))
  |none=>M.stuck
 |none=>M.stuck
theorem qU{κ:Type}[DecidableEq κ]{ks:List κ}{ds:List D}{k:κ}{d:D}(hl:ks.length=ds.length)(h:ds.length<lim):(cx ks ds k d).length≤lim:=by
 unfold cx
 split
 ·rw[iu ks ds k d hl];omega
 ·rw[List.length_append];exact h
theorem Dz{K:W.Frag}{F H:Hp}{c c':C}{k d:D}{y v:V}{o:HO}{b:Addr}(hs:Same F H)(hb:H b=some o)(hc:DenC K F c o)(hk:Den K F k y)(hd:Den K F d v)(e:lF c k d=some c'):∃o',DPut H b y v (upd H b o')∧DenC K F c' o':=by
 have KI:=c8
 unfold lF at e
 split at e
 ·rename_i ks ds k d
  obtain⟨vs,rfl,h3,h4,h5⟩:=hc
  split at e
  ·rename_i kk q
   split at e
   ·rename_i dw
    cases e
    unfold eu at q
    split at q
    ·rename_i es
     obtain⟨b2,ws,rfl,k2,k3,_⟩:=hk
     have e1:=g_ q k3
     subst e1
     obtain⟨us,e2,e3,e4⟩:=sU hd kk h3 h4
     refine⟨_,DPut.t hb (hs _ _ k2) (by rw[zj h3 h4];omega),us,?_,e3,e4,qU h4 dw⟩
     rw[e2]
    ·cases q
   ·cases e
  ·cases e
 ·rename_i ks ds k d
  obtain⟨vs,rfl,h3,h4,h5⟩:=hc
  split at e
  ·rename_i kk q
   split at e
   ·rename_i dw
    cases e
    have e1:=nV q hk
    subst e1
    obtain⟨us,e2,e3,e4⟩:=sU hd kk h3 h4
    refine⟨_,DPut.k hb (by rw[zj h3 h4];omega),us,?_,e3,e4,qU h4 dw⟩
    rw[e2]
   ·cases e
  ·cases e
 ·cases e
theorem oU(hu:X.A.units+64<cLine)(hv:PE X (.Name x p) (o_ i))(hk:PD X Xw a δk)(he:PD X Xw e δv)(hs:swapsWith e (some (.Subscript (.Name x p) a pos')) pos.line X.env=pure false:=by rfl):
 kR X Xw (.Assign [.Subscript (.Name x p) a pos'] e pos) (jq i δk δv):=fun F₀ H₀=>PS.weak (FX (by omega) hv hk he hs) fun D σ H ⟨F,ρ,s,w⟩=>by
 unfold jq at w
 cases ho:xo ρ i with
 |none=>rw[ho] at w;exact w.elim
 |some c=>
  rw[ho] at w
  have hi:=qL ho
  have w:WPS X.K Xw F₀ H₀ (δv ρ>>=fun v=>δk ρ>>=fun k=>match lF c k v with | some c'=>M.ret (.nx (ρ.set i (some (.ow c')))) | none=>M.stuck) D:=w
  refine⟨F,ρ,s.st,?_⟩
  rcases(δv ρ).cs with q | ⟨n,q⟩ | ⟨dv,q⟩
  ·rw[q] at w;exact w.elim
  ·rw[q] at w⊢;exact fun F' H' e'=>w F' H' (s.ext.trans e')
  ·rw[q] at w⊢
   intro v H1 F1 e1 hq
   have s1:=s.ext' e1
   obtain⟨u,h1,b,o,rfl,h2,h3,h4⟩:=s1.st.den i _ hi
   have w:WPS X.K Xw F₀ H₀ (δk ρ>>=fun k=>match lF c k dv with | some c'=>M.ret (.nx (ρ.set i (some (.ow c')))) | none=>M.stuck) D:=w
   refine⟨.ref b,h1,F1,ρ,s1.st,?_⟩
   rcases(δk ρ).cs with q2 | ⟨n,q2⟩ | ⟨dk,q2⟩
   ·rw[q2] at w;exact w.elim
   ·rw[q2] at w⊢;exact fun F' H' e'=>w F' H' (s1.ext.trans e')
   ·rw[q2] at w⊢
    intro y H2 F2 e2 hy
    have w:WPS X.K Xw F₀ H₀ (match lF c dk dv with | some c'=>M.ret (.nx (ρ.set i (some (.ow c')))) | none=>M.stuck) D:=w
    cases hp:lF c dk dv with
    |none=>rw[hp] at w;exact w.elim
    |some c'=>
     rw[hp] at w
     have s2:=s1.ext' e2
     obtain⟨u2,k1,b2,o2,wD,k2,k3,k4⟩:=s2.st.den i _ hi
     rw[h1] at k1
     cases k1
     cases wD
     obtain⟨o',g,hc⟩:=Dz s2.st.fh k2 k4 hy (Den.mono e2.ff hq) hp
     exact⟨b,_,rfl,g,w σ F2 _ (s2.chg hi h1 hc)⟩
end
def eB(c:DT)(body:DS):Nat→DS
 |0,_=>M.stuck
 |n+1,ρ=>c ρ>>=fun b=>if b then body ρ>>=fun o=>match o with | .nx ρ'=>eB c body n ρ' | .rt d=>M.ret (.rt d) else M.ret (.nx ρ)
def DX(c:DT)(body:DS):DS:=fun ρ=>eB c body lim ρ
section
variable{X:Cx}{Xw:Nat→Hp→Prop}{τ:DS}{tc:DT}{pos:Pos}
theorem AI{c:Expr}{body:List Stmt}(hp:PassesOwn (model X.prog X.w) X.A X.env X.xe)(hc:rl X Xw c tc)(hb:PSDs X Xw body τ):kR X Xw (.While c body [] pos) (DX tc τ):=fun F₀ H₀=>PS.weak (Dt hp hc hb.ex) fun D σ H ⟨F,ρ,s,w⟩=>by
 refine⟨fun m σ H=>∃F ρ,StOk X.K F₀ H₀ F H σ ρ∧WPS X.K Xw F₀ H₀ (eB tc τ m ρ) D,⟨lim,F,ρ,s,w⟩,?_⟩
 rintro m σ H ⟨F,ρ,s,w⟩
 cases m with
 |zero=>exact w.elim
 |succ m=>
  refine⟨F,ρ,s.st,?_⟩
  unfold eB at w
  match tc ρ,w with
  |none,w=>exact w
  |some (.ex n),w=>exact fun F' H' e'=>w F' H' (s.ext.trans e')
  |some (.ok false),w=>exact fun H' F' e'=>w σ F' H' (s.ext' e')
  |some (.ok true),w=>
   intro H' F' e'
   have w:WPS X.K Xw F₀ H₀ (τ ρ>>=fun o=>match o with | .nx ρ'=>eB tc τ m ρ' | .rt d=>M.ret (.rt d)) D:=w
   refine⟨fun σ' H'=>∃F' ρ',StOk X.K F₀ H₀ F' H' σ' ρ'∧WPS X.K Xw F₀ H₀ (eB tc τ m ρ') D,fun σ' H' h=>⟨m,Nat.lt_succ_self m,h⟩,F₀,H₀,F',ρ,s.ext' e',?_⟩
   match τ ρ,w with
   |none,w=>exact w
   |some (.ok (.nx ρ')),w=>exact fun σ' F' H' s'=>⟨F',ρ',s',w⟩
   |some (.ok (.rt d)),w=>exact w
   |some (.ex n),w=>exact w
end
def jZ:List D→Option (List (List Key))
 |[]=>some []
 |d::ds=>match eu d,jZ ds with
  |some k,some ks=>some (k::ks)
  |_,_=>none
theorem Ht:∀{x y:D}{k k':Key}{n:Nat},wQ x=some k→wQ y=some k'→kQ n x y=some (decide (k=k'))
 | .int i, .int j,_,_,n,e1,e2=>by
   cases e1;cases e2
   have:kQ n (.int i) (.int j)=some (i==j):=by cases n<;>rfl
   rw[this]
   congr 1
   by_cases h:i=j
   ·subst h;simp
   ·simp[h]
 | .str x, .str y,_,_,n,e1,e2=>by
   cases e1;cases e2
   have:kQ n (.str x) (.str y)=some (x==y):=by cases n<;>rfl
   rw[this]
   congr 1
   by_cases h:x=y
   ·subst h;simp
   ·simp[h]
 | .int i, .str y,_,_,n,e1,e2=>by
   cases e1;cases e2
   have:kQ n (.int i) (.str y)=some false:=by cases n<;>rfl
   rw[this]
   simp
 | .str x, .int j,_,_,n,e1,e2=>by
   cases e1;cases e2
   have:kQ n (.str x) (.int j)=some false:=by cases n<;>rfl
   rw[this]
   simp
 | .non,_,_,_,_,e1,_=>by cases e1
 | .bl _,_,_,_,_,e1,_=>by cases e1
 | .raw _,_,_,_,_,e1,_=>by cases e1
 | .exc _,_,_,_,_,e1,_=>by cases e1
 | .scr _,_,_,_,_,e1,_=>by cases e1
 | .tup _,_,_,_,_,e1,_=>by cases e1
 | .lst _,_,_,_,_,e1,_=>by cases e1
 | .dct _ _,_,_,_,_,e1,_=>by cases e1
 | .dci _ _,_,_,_,_,e1,_=>by cases e1
 |_, .non,_,_,_,_,e2=>by cases e2
 |_, .bl _,_,_,_,_,e2=>by cases e2
 |_, .raw _,_,_,_,_,e2=>by cases e2
 |_, .exc _,_,_,_,_,e2=>by cases e2
 |_, .scr _,_,_,_,_,e2=>by cases e2
 |_, .tup _,_,_,_,_,e2=>by cases e2
 |_, .lst _,_,_,_,_,e2=>by cases e2
 |_, .dct _ _,_,_,_,_,e2=>by cases e2
 |_, .dci _ _,_,_,_,_,e2=>by cases e2
theorem ym{n:Nat}:∀{xs ys:List D}{k k':List Key},r9 xs=some k→r9 ys=some k'→nB (kQ n) xs ys=some (decide (k=k'))
 |[],[],_,_,e1,e2=>by cases e1;cases e2;rfl
 |x::xs,[],_,_,e1,e2=>by
  cases e2
  unfold r9 at e1
  split at e1
  ·cases e1;simp[nB]
  ·cases e1
 |[],y::ys,_,_,e1,e2=>by
  cases e1
  unfold r9 at e2
  split at e2
  ·cases e2;simp[nB]
  ·cases e2
 |x::xs,y::ys,_,_,e1,e2=>by
  unfold r9 at e1 e2
  split at e1
  ·rename_i k ks q1 q2
   cases e1
   split at e2
   ·rename_i k' ks' q3 q4
    cases e2
    unfold nB
    rw[Ht q1 q3,ym q2 q4]
    simp
   ·cases e2
  ·cases e1
theorem EU{x y:D}{k k':List Key}{n:Nat}(e1:eu x=some k)(e2:eu y=some k'):kQ (n+1) x y=some (decide (k=k')):=by
 cases x with
 |tup xs=>
  cases y with
  |tup ys=>exact ym (n:=n) e1 e2
  |_=>cases e2
 |_=>cases e1
theorem CA{K:W.Frag}{F:Hp}{d:D}{v:V}{k:List Key}(e:eu d=some k)(h:Den K F d v):∃a,v= .ref a∧F a=some (.tup (k.map kV)):=by
 cases d with
 |tup ds=>
  obtain⟨a,vs,rfl,h2,h3,_⟩:=h
  have:=g_ e h3
  subst this
  exact⟨a,rfl,h2⟩
 |_=>cases e
def lp(k:List Key)(ks:List (List Key)):Bool:=ks.any fun k'=>decide (k'=k)
open Classical in
noncomputable def isKey(H:Hp)(k:List Key)(u:Value):Bool:=decide (∃a,u= .ref a∧H a=some (.tup (k.map kV)))
theorem zZ{K:W.Frag}{F H:Hp}{d:D}{v:V}{u:Value}{k k':List Key}(hs:Same F H)(e:eu d=some k')(h:Den K F d v)(r:RelV v u):isKey H k u=decide (k'=k):=by
 obtain⟨a,rfl,h2⟩:=CA e h
 cases (show u=_ from r)
 unfold isKey
 by_cases hk:k'=k
 ·subst hk
  rw[decide_eq_true rfl]
  exact @decide_eq_true _ (Classical.propDecidable _) ⟨a,rfl,hs _ _ h2⟩
 ·rw[decide_eq_false hk]
  refine @decide_eq_false _ (Classical.propDecidable _) fun⟨b,e1,e2⟩=>hk ?_
  cases e1
  rw[hs _ _ h2] at e2
  injection e2 with e2
  injection e2 with e2
  exact yE e2
theorem fV{X:Cx}{pins:List (Addr×Obj)}{σ:St}{F H:Hp}{s:Shared}{A:Around}{x:D}{v:V}{u:Value}{k:List Key}(I:Inv X pins σ H s)(hs:Same F H)(hu:A.units+6<cLine)(ex:eu x=some k)(hx:Den X.K F x v)(rx:RelV v u):
 ∀{ys:List D}{vs:List V}{aD:List Value}{ks:List (List Key)},jZ ys=some ks→DenL X.K F ys vs→Vals vs aD→aD.any (isKey H k)=lp k ks∧∀t∈aD,EqAt A s t u (isKey H k t)
 |[],_,_,_,e,h,r=>by
  cases e
  cases (show _=_ from h)
  cases r
  exact⟨rfl,fun t ht=>by cases ht⟩
 |y::ys,_,_,_,e,⟨w,ws,h1,h2,h3⟩,r=>by
  subst h1
  unfold jZ at e
  split at e
  ·rename_i k' ks e1 e2
   cases e
   cases r with
   |cons r1 r2=>
    obtain⟨NW,NX⟩:=fV I hs hu ex hx rx e2 h3 r2
    have hk:=zZ (k:=k) hs e1 h2 r1
    refine⟨?_,fun t ht=>?_⟩
    ·rw[List.any_cons,NW,hk]
     rfl
    ·rcases List.mem_cons.mp ht with rfl | ht
     ·rw[hk]
      exact(rQ I hs 6 A y x w v t u _ hu h2 hx r1 rx (EU e1 ex)).eq
     ·exact NX t ht
  ·cases e
def zM(neg:Bool):D→D→M D
 |x, .lst ys=>match eu x,jZ ys with
  |some k,some ks=>M.ret (.bl (if neg then !lp k ks else lp k ks))
  |_,_=>M.stuck
 |x, .tup ys=>match eu x,jZ ys with
  |some k,some ks=>M.ret (.bl (if neg then !lp k ks else lp k ks))
  |_,_=>M.stuck
 |_,_=>M.stuck
def Jr(K:W.Frag)(neg:Bool):R2:=fun x y H Q=>∃F dx ys vs p k ks,Same F H∧Den K F dx x∧eu dx=some k∧jZ ys=some ks∧DenL K F ys vs∧y= .ref p∧(SqL K H p vs∨SqT K H p vs)∧Q (.bl (if neg then !lp k ks else lp k ks)) H
section
variable{X:Cx}{Xw:Nat→Hp→Prop}{a b:Expr}{δa δb:DE}{pos:Pos}
theorem Oa(hu:X.A.units+64<cLine):OpR X (compareOp .In) (Jr X.K false):=by
 intro pins s σ H x y v u Q I rx ry h
 obtain⟨F,dx,ys,vs,p,k,ks,hs,hx,ex,ek,hd,rfl,hq,q⟩:=h
 cases (show u=_ from ry)
 have K5:X.A.in1.units+6<cLine:=by show X.A.units+1+6<cLine;omega
 rcases hq with hq | hq
 ·obtain⟨aD,r,pl,hz⟩:=I.list hq
  obtain⟨e1,e2⟩:=fV (A:=X.A.in1) I hs K5 ex hx rx ek hd r
  refine SeqAt.in_listAt (isKey H k) pl.isList (fun w hw=>e2 w (by simpa using hw)) ⟨.bl _,H,I,rfl,?_⟩
  rw[show aD.toArray.any (isKey H k)=aD.any (isKey H k) by simp,e1]
  exact q
 ·obtain⟨aD,r,pl,hz⟩:=I.tuple hq
  obtain⟨e1,e2⟩:=fV (A:=X.A.in1) I hs K5 ex hx rx ek hd r
  refine SeqAt.in_tupleAt (isKey H k) pl (fun w hw=>e2 w (by simpa using hw)) ⟨.bl _,H,I,rfl,?_⟩
  rw[show aD.toArray.any (isKey H k)=aD.any (isKey H k) by simp,e1]
  exact q
theorem Aw(hu:X.A.units+64<cLine):OpR X (compareOp .NotIn) (Jr X.K true):=by
 intro pins s σ H x y v u Q I rx ry h
 obtain⟨F,dx,ys,vs,p,k,ks,hs,hx,ex,ek,hd,rfl,hq,q⟩:=h
 cases (show u=_ from ry)
 have K5:X.A.in1.units+6<cLine:=by show X.A.units+1+6<cLine;omega
 rcases hq with hq | hq
 ·obtain⟨aD,r,pl,hz⟩:=I.list hq
  obtain⟨e1,e2⟩:=fV (A:=X.A.in1) I hs K5 ex hx rx ek hd r
  refine SeqAt.notIn_listAt (isKey H k) pl.isList (fun w hw=>e2 w (by simpa using hw)) ⟨.bl _,H,I,rfl,?_⟩
  rw[show aD.toArray.any (isKey H k)=aD.any (isKey H k) by simp,e1]
  exact q
 ·obtain⟨aD,r,pl,hz⟩:=I.tuple hq
  obtain⟨e1,e2⟩:=fV (A:=X.A.in1) I hs K5 ex hx rx ek hd r
  refine SeqAt.notIn_tupleAt (isKey H k) pl (fun w hw=>e2 w (by simpa using hw)) ⟨.bl _,H,I,rfl,?_⟩
  rw[show aD.toArray.any (isKey H k)=aD.any (isKey H k) by simp,e1]
  exact q
theorem Ij{neg:Bool}{K:W.Frag}:vZ K (Jr K neg) (zM neg):=fun Xw F H x y dx dy Q s hx hy w=>by
 unfold zM at w
 split at w
 ·rename_i ys
  split at w
  ·rename_i k ks e1 e2
   obtain⟨p,vs,h1,h2,h3,_⟩:=hy
   exact⟨F,dx,ys,vs,p,k,ks,s,hx,e1,e2,h3,h1, .inl (SqL.of (s _ _ h2)),WP.now w s rfl⟩
  ·exact w.elim
 ·rename_i ys
  split at w
  ·rename_i k ks e1 e2
   obtain⟨p,vs,h1,h2,h3,_⟩:=hy
   exact⟨F,dx,ys,vs,p,k,ks,s,hx,e1,e2,h3,h1, .inr (SqT.of (s _ _ h2)),WP.now w s rfl⟩
  ·exact w.elim
 ·exact w.elim
theorem AK(hu:X.A.units+64<cLine)(ha:PD X Xw a δa)(hb:PD X Xw b δb)(hm:behindInMarks .NotIn b=false:=by rfl):rl X Xw (.Compare a [.NotIn] [b] pos) (dn (d2 (zM true) δa δb)):=i6 (Aw hu) Ij ha hb hm
end
end L3
namespace L3
open PySem PySem.W PyProof.Rows
def c_{α:Type}(b:Nat→Nat→Bool):KasT α→α
 | .ret a=>a
 | .ask i j k=>c_ b (k (b i j))
theorem eL{α β:Type}(b:Nat→Nat→Bool)(f:α→KasT β):∀t:KasT α,c_ b (t.bind f)=c_ b (f (c_ b t))
 | .ret _=>rfl
 | .ask i j k=>eL b f (k (b i j))
structure Lt (n:Nat) (b:Nat→Nat→Bool):Prop where
 tr:∀i j k,b i j=true→b j k=true→b i k=true
 RI:∀i j,b i j=true→b j i=false
 tot:∀i j,i<n→j<n→i≠j→b i j=true∨b j i=true
abbrev at'(p:Array Nat)(i:Nat):Nat:=p.getD i 0
def Ri(b:Nat→Nat→Bool)(p:Array Nat)(k:Nat):Prop:=∀i j,i<j→j<k→b (at' p i) (at' p j)=true
def Fa(b:Nat→Nat→Bool)(p:Array Nat)(k:Nat):Prop:=∀i j,i<j→j<k→b (at' p j) (at' p i)=true
structure PN (n:Nat) (p:Array Nat):Prop where
 sz:p.size=n
 lt:∀i,i<n→at' p i<n
 inj:∀i j,i<n→j<n→at' p i=at' p j→i=j
section
variable{n:Nat}{b:Nat→Nat→Bool}(L:Lt n b)
include L
theorem Ri.more{p:Array Nat}{k:Nat}(h:Ri b p k)(h1:1≤k)(e:b (at' p (k - 1)) (at' p k)=true):Ri b p (k+1):=fun i j yt hj=>by
 by_cases hk:j<k
 ·exact h i j yt hk
 ·have:j=k:=by omega
  subst this
  by_cases hi:i=j - 1
  ·subst hi;exact e
  ·exact L.tr _ _ _ (h i (j - 1) (by omega) (by omega)) e
theorem Fa.more{p:Array Nat}{k:Nat}(h:Fa b p k)(h1:1≤k)(e:b (at' p k) (at' p (k - 1))=true):Fa b p (k+1):=fun i j yt hj=>by
 by_cases hk:j<k
 ·exact h i j yt hk
 ·have:j=k:=by omega
  subst this
  by_cases hi:i=j - 1
  ·subst hi;exact e
  ·exact L.tr _ _ _ e (h i (j - 1) (by omega) (by omega))
theorem rz{p:Array Nat}(P:PN n p):∀(f k:Nat),1≤k→k+f≤n→Ri b p k→k≤c_ b (kas_asc p f k)∧c_ b (kas_asc p f k)≤k+f∧Ri b p (c_ b (kas_asc p f k))∧(c_ b (kas_asc p f k)<k+f→b (at' p (c_ b (kas_asc p f k))) (at' p (c_ b (kas_asc p f k) - 1))=true)
 |0,k,h1,hn,h=>⟨Nat.le_refl _,Nat.le_refl _,h,fun z=>absurd z (Nat.lt_irrefl _)⟩
 |f+1,k,h1,hn,h=>by
  have e:c_ b (kas_asc p (f+1) k)=c_ b (if b (at' p k) (at' p (k - 1))=true then KasT.ret k else kas_asc p f (k+1)):=rfl
  rw[e]
  by_cases hb:b (at' p k) (at' p (k - 1))=true
  ·rw[if_pos hb]
   exact⟨Nat.le_refl _,by show k≤_;omega,h,fun _=>hb⟩
  ·rw[if_neg hb]
   have hr:b (at' p (k - 1)) (at' p k)=true:=by
    rcases L.tot (at' p (k - 1)) (at' p k) (P.lt _ (by omega)) (P.lt _ (by omega)) (fun z=>by have:=P.inj _ _ (by omega) (by omega) z;omega) with q | q
    ·exact q
    ·exact absurd q hb
   obtain⟨a1,a2,a3,a4⟩:=rz P f (k+1) (by omega) (by omega) (Ri.more L h h1 hr)
   exact⟨by omega,by omega,a3,fun z=>a4 (by omega)⟩
theorem ub{p:Array Nat}(P:PN n p):∀(f k:Nat),1≤k→k+f≤n→Fa b p k→∃m,c_ b (kas_desc f p k 0)=(p,m,0)∧k≤m∧m≤k+f∧Fa b p m
 |0,k,h1,hn,h=>⟨k,rfl,Nat.le_refl _,Nat.le_refl _,h⟩
 |f+1,k,h1,hn,h=>by
  have e:c_ b (kas_desc (f+1) p k 0)=c_ b (if b (at' p k) (at' p (k - 1))=true then(if 0>0 then kas_desc f (kas_rev p (k - (0+1)) k) (k+1) 0 else kas_desc f p (k+1) 0)
   else .ask (p.getD (k - 1) 0) (p.getD k 0) fun d=>if d=true then .ret (p,k,0) else kas_desc f p (k+1) (0+1)):=rfl
  rw[e]
  by_cases hb:b (at' p k) (at' p (k - 1))=true
  ·rw[if_pos hb,if_neg (by omega)]
   obtain⟨m,e1,e2,e3,e4⟩:=ub P f (k+1) (by omega) (by omega) (Fa.more L h h1 hb)
   exact⟨m,e1,by omega,by omega,e4⟩
  ·rw[if_neg hb]
   have hr:b (at' p (k - 1)) (at' p k)=true:=by
    rcases L.tot (at' p (k - 1)) (at' p k) (P.lt _ (by omega)) (P.lt _ (by omega)) (fun z=>by have:=P.inj _ _ (by omega) (by omega) z;omega) with q | q
    ·exact q
    ·exact absurd q hb
   refine⟨k,?_,Nat.le_refl _,by omega,h⟩
   show c_ b (if b (at' p (k - 1)) (at' p k)=true then KasT.ret (p,k,0) else kas_desc f p (k+1) (0+1))=_
   rw[if_pos hr]
   rfl
end
theorem du(p:Array Nat)(k:Nat):at' p k=(p[k]?).getD 0:=by
 unfold at'
 rw[Array.getD_eq_getD_getElem?]
theorem DL{p:Array Nat}{m:Nat}(hm:m≤p.size)(k:Nat):at' (kas_rev p 0 m) k=if k<m then at' p (m - 1 - k) else at' p k:=by
 have e:=getElem?_mirror_all (xs:=p) (i:=0) hm k
 rw[du]
 show (((mirror p 0 m ((m - 0) / 2))[k]?).getD 0)=_
 rw[e]
 by_cases h:k<m
 ·rw[if_pos ⟨Nat.zero_le _,h⟩,if_pos h,du,Nat.zero_add]
 ·rw[if_neg (fun z=>h z.2),if_neg h,du]
theorem Bz{p:Array Nat}{k l:Nat}(hk:k<p.size)(hl:l≤k)(j:Nat):at' (bubble p k (k - l)) j=if j=l then at' p k else if l<j∧j≤k then at' p (j - 1) else at' p j:=by
 have e:=getElem?_bubble hk (k - l) (by omega) j
 have e2:k - (k - l)=l:=by omega
 rw[e2] at e
 rw[du (bubble p k (k - l)),e,du p k,du p (j - 1),du p j]
 by_cases c1:j=l
 ·rw[if_pos c1,if_pos c1]
 ·rw[if_neg c1,if_neg c1]
  by_cases c2:l<j∧j≤k
  ·rw[if_pos c2,if_pos c2]
  ·rw[if_neg c2,if_neg c2]
section
variable{n:Nat}{b:Nat→Nat→Bool}
theorem PN.rev{p:Array Nat}(P:PN n p){m:Nat}(hm:m≤n):PN n (kas_rev p 0 m):=by
 have ha:=DL (p:=p) (m:=m) (by rw[P.sz];exact hm)
 refine⟨(mirror_size ..).trans P.sz,fun i hi=>?_,fun i j hi hj e=>?_⟩
 ·rw[ha]
  split
  ·exact P.lt _ (by omega)
  ·exact P.lt _ hi
 ·rw[ha,ha] at e
  split at e<;>split at e
  ·have:=P.inj _ _ (by omega) (by omega) e;omega
  ·have:=P.inj _ _ (by omega) hj e;omega
  ·have:=P.inj _ _ hi (by omega) e;omega
  ·exact P.inj _ _ hi hj e
theorem PN.bub{p:Array Nat}(P:PN n p){k l:Nat}(hk:k<n)(hl:l≤k):PN n (bubble p k (k - l)):=by
 have ha:=Bz (p:=p) (k:=k) (l:=l) (by rw[P.sz];exact hk) hl
 refine⟨(bubble_size ..).trans P.sz,fun i hi=>?_,fun i j hi hj e=>?_⟩
 ·rw[ha]
  split
  ·exact P.lt _ hk
  ·split
   ·exact P.lt _ (by omega)
   ·exact P.lt _ hi
 ·rw[ha,ha] at e
  split at e
  ·split at e
   ·omega
   ·split at e
    ·have:=P.inj _ _ hk (by omega) e;omega
    ·have:=P.inj _ _ hk hj e;omega
  ·split at e
   ·split at e
    ·have:=P.inj _ _ (by omega) hk e;omega
    ·split at e
     ·have:=P.inj _ _ (by omega) (by omega) e;omega
     ·have:=P.inj _ _ (by omega) hj e;omega
   ·split at e
    ·have:=P.inj _ _ hi hk e;omega
    ·split at e
     ·have:=P.inj _ _ hi (by omega) e;omega
     ·exact P.inj _ _ hi hj e
theorem Fa.rev{p:Array Nat}(P:PN n p){m:Nat}(hm:m≤n)(h:Fa b p m):Ri b (kas_rev p 0 m) m:=fun i j yt hj=>by
 have ha:=DL (p:=p) (m:=m) (by rw[P.sz];exact hm)
 rw[ha,ha,if_pos (by omega),if_pos hj]
 exact h _ _ (by omega) (by omega)
variable(L:Lt n b)
include L
theorem Ef{p:Array Nat}(P:PN n p){m:Nat}(h1:1≤m)(hm:m≤n)(h:Fa b p m):∃k q,c_ b (kas_tail3 m n p)=(k,q)∧PN n q∧1≤k∧k≤n∧Ri b q k:=by
 unfold kas_tail3
 rw[eL]
 obtain⟨a1,a2,a3,_⟩:=rz L (P.rev hm) (n - m) m h1 (by omega) (Fa.rev P hm h)
 exact⟨_,_,rfl,P.rev hm,by omega,by omega,a3⟩
theorem zG{p:Array Nat}(P:PN n p)(h2:2≤n):∃k q,c_ b (kas_count n p)=(k,q)∧PN n q∧1≤k∧k≤n∧Ri b q k:=by
 unfold kas_count
 rw[eL]
 obtain⟨a1,a2,a3,a4⟩:=rz L P (n - 1) 1 (Nat.le_refl _) (by omega) (fun i j yt hj=>by omega)
 generalize c_ b (kas_asc p (n - 1) 1)=m at a1 a2 a3 a4
 by_cases he:m=n
 ·subst he
  rw[if_pos (by simp)]
  exact⟨m,p,rfl,P,by omega,Nat.le_refl _,a3⟩
 ·rw[if_neg (by simpa using he)]
  by_cases hg:m>1
  ·rw[if_pos hg]
   have hb:b (p.getD 0 0) (p.getD (m - 1) 0)=true:=a3 0 (m - 1) (by omega) (by omega)
   show∃k q,c_ b (if b (p.getD 0 0) (p.getD (m - 1) 0)=true then KasT.ret (m,p) else kas_descPart m n (kas_rev p 0 m))=(k,q)∧_
   rw[if_pos hb]
   exact⟨m,p,rfl,P,by omega,by omega,a3⟩
  ·rw[if_neg hg]
   have hm:m=1:=by omega
   subst hm
   have hb:=a4 (by omega)
   unfold kas_descPart
   rw[eL]
   obtain⟨m,e1,e2,e3,e4⟩:=ub L P (n - (1+1)) (1+1) (by omega) (by omega) (fun i j yt hj=>by
    have hi:i=0:=by omega
    have hj:j=1:=by omega
    subst hi hj
    exact hb)
   rw[e1]
   dsimp only
   rw[if_neg (by omega)]
   exact Ef L P (by omega) (by omega) e4
theorem lC{p:Array Nat}(P:PN n p){k:Nat}(hk:k<n)(h:Ri b p k):∀(f l r:Nat),l≤r→r≤k→r - l≤f→(∀i,i<l→b (at' p i) (at' p k)=true)→(∀i,r≤i→i<k→b (at' p k) (at' p i)=true)→
 c_ b (kas_place p k f l r)≤k∧(∀i,i<c_ b (kas_place p k f l r)→b (at' p i) (at' p k)=true)∧∀i,c_ b (kas_place p k f l r)≤i→i<k→b (at' p k) (at' p i)=true
 |0,l,r,h1,h2,h3,h4,h5=>by
  have:r=l:=by omega
  subst this
  exact⟨h2,h4,h5⟩
 |f+1,l,r,h1,h2,h3,h4,h5=>by
  unfold kas_place
  by_cases Pe:l≥r
  ·rw[if_pos Pe]
   have:r=l:=by omega
   subst this
   exact⟨h2,h4,h5⟩
  ·rw[if_neg Pe]
   have hm:(l+r) / 2<r:=by omega
   have zV:l≤(l+r) / 2:=by omega
   show c_ b (if b (at' p k) (at' p ((l+r) / 2))=true then kas_place p k f l ((l+r) / 2) else kas_place p k f ((l+r) / 2+1) r)≤k∧(∀i,i<c_ b (if b (at' p k) (at' p ((l+r) / 2))=true then kas_place p k f l ((l+r) / 2) else kas_place p k f ((l+r) / 2+1) r)→_)∧∀i,c_ b (if b (at' p k) (at' p ((l+r) / 2))=true then kas_place p k f l ((l+r) / 2) else kas_place p k f ((l+r) / 2+1) r)≤i→_
   by_cases hb:b (at' p k) (at' p ((l+r) / 2))=true
   ·rw[if_pos hb]
    refine lC P hk h f l ((l+r) / 2) zV (by omega) (by omega) h4 fun i hi QL=>?_
    by_cases e:i=(l+r) / 2
    ·rw[e];exact hb
    ·exact L.tr _ _ _ hb (h _ _ (by omega) QL)
   ·rw[if_neg hb]
    have hr:b (at' p ((l+r) / 2)) (at' p k)=true:=by
     rcases L.tot (at' p ((l+r) / 2)) (at' p k) (P.lt _ (by omega)) (P.lt _ hk) (fun z=>by have:=P.inj _ _ (by omega) hk z;omega) with q | q
     ·exact q
     ·exact absurd q hb
    refine lC P hk h f ((l+r) / 2+1) r (by omega) h2 (by omega) (fun i hi=>?_) h5
    by_cases e:i=(l+r) / 2
    ·rw[e];exact hr
    ·exact L.tr _ _ _ (h i ((l+r) / 2) (by omega) (by omega)) hr
theorem yh:∀(f:Nat) {p:Array Nat}{k:Nat},PN n p→k+f≤n→Ri b p k→PN n (c_ b (kas_bin f p k))∧Ri b (c_ b (kas_bin f p k)) (k+f)
 |0,p,k,P,_,h=>⟨P,h⟩
 |f+1,p,k,P,hn,h=>by
  have hk:k<n:=by omega
  unfold kas_bin
  rw[eL]
  obtain⟨a1,a2,a3⟩:=lC L P hk h k 0 k (Nat.zero_le _) (Nat.le_refl _) (by omega) (fun i hi=>by omega) (fun i h1 h2=>by omega)
  generalize c_ b (kas_place p k k 0 k)=l at a1 a2 a3
  have ha:=Bz (p:=p) (k:=k) (l:=l) (by rw[P.sz];exact hk) a1
  have hR:Ri b (bubble p k (k - l)) (k+1):=fun i j yt hj=>by
   rw[ha,ha]
   by_cases c1:i=l
   ·rw[if_pos c1,if_neg (by omega),if_pos ⟨by omega,by omega⟩]
    exact a3 _ (by omega) (by omega)
   ·rw[if_neg c1]
    by_cases c2:j=l
    ·rw[if_pos c2,if_neg (by omega)]
     exact a2 _ (by omega)
    ·rw[if_neg c2]
     by_cases c3:l<i∧i≤k
     ·rw[if_pos c3,if_pos ⟨by omega,by omega⟩]
      exact h _ _ (by omega) (by omega)
     ·rw[if_neg c3]
      by_cases c4:l<j∧j≤k
      ·rw[if_pos c4]
       exact h _ _ (by omega) (by omega)
      ·rw[if_neg c4]
       exact h _ _ yt (by omega)
  have:=yh f (P.bub hk a1) (by omega) hR
  rw[show k+(f+1)=k+1+f by omega]
  exact this
theorem D7(h2:2≤n):PN n (c_ b (kas_sort n))∧Ri b (c_ b (kas_sort n)) n:=by
 have P0:PN n (List.toArray (List.range n)):=by
  have e:∀i,i<n→at' (List.toArray (List.range n)) i=i:=fun i hi=>by rw[du];simp[hi]
  exact⟨by simp,fun i hi=>by rw[e i hi];exact hi,fun i j hi hj z=>by rw[e i hi,e j hj] at z;exact z⟩
 unfold kas_sort
 rw[eL]
 obtain⟨k,q,e,P,k1,kn,hR⟩:=zG L P0 h2
 rw[e]
 dsimp only
 by_cases dw:k<n
 ·rw[if_pos dw]
  have:=yh L (n - max k 1) (k:=max k 1) P (by omega) (by rw[show max k 1=k by omega];exact hR)
  rw[show max k 1+(n - max k 1)=n by omega] at this
  exact this
 ·rw[if_neg dw]
  have:k=n:=by omega
  subst this
  exact⟨P,hR⟩
end
def Asks{α:Type}(n:Nat)(P:α→Prop):KasT α→Prop
 | .ret a=>P a
 | .ask i j k=>i<n∧j<n∧∀c,Asks n P (k c)
theorem Asks.bind{α β:Type}{n:Nat}{P:α→Prop}{Q:β→Prop}{f:α→KasT β}:∀{t:KasT α},Asks n P t→(∀a,P a→Asks n Q (f a))→Asks n Q (t.bind f)
 | .ret a,h,hf=>hf a h
 | .ask i j k,h,hf=>⟨h.1,h.2.1,fun c=>Asks.bind (h.2.2 c) hf⟩
theorem wp_run{α:Type}{n:Nat}{P:α→Prop}{b:Nat→Nat→Bool}{cmp:Nat→Nat→(Bool→Shared→Prop)→Shared→Prop}{Q:α→Shared→Prop}{s:Shared}(hc:∀i j C,i<n→j<n→C (b i j) s→cmp i j C s):∀{t:KasT α},Asks n P t→Q (c_ b t) s→t.kasWp cmp Q s
 | .ret a,_,h=>h
 | .ask i j k,ha,h=>hc i j _ ha.1 ha.2.1 (wp_run hc (ha.2.2 _) h)
def Below(n:Nat)(p:Array Nat):Prop:=∀x∈p,x<n
section
variable{n:Nat}(hn:0<n)
include hn
theorem Below.at{p:Array Nat}(h:Below n p)(i:Nat):at' p i<n:=by
 rw[du]
 cases e:p[i]? with
 |none=>exact hn
 |some x=>exact h x (Array.mem_of_getElem? e)
theorem Below.rev{p:Array Nat}(h:Below n p)(i j:Nat):Below n (kas_rev p i j):=fun x hx=>h x ((mirror_perm p i j ((j - i) / 2)).mem_iff.mp hx)
theorem Below.bub{p:Array Nat}(h:Below n p)(k d:Nat):Below n (bubble p k d):=fun x hx=>h x ((bubble_perm p k d).mem_iff.mp hx)
theorem m8{p:Array Nat}(h:Below n p):∀f k,Asks n (fun _=>True) (kas_asc p f k)
 |0,k=>trivial
 |f+1,k=>⟨Below.at hn h _,Below.at hn h _,fun c=>by
  show Asks n _ (if c=true then KasT.ret k else kas_asc p f (k+1))
  cases c
  ·exact m8 h f (k+1)
  ·exact trivial⟩
theorem iQ:∀f {p:Array Nat} k q,Below n p→Asks n (fun r=>Below n r.1) (kas_desc f p k q)
 |0,p,k,q,h=>h
 |f+1,p,k,q,h=>⟨Below.at hn h _,Below.at hn h _,fun c=>by
  cases c
  ·refine⟨Below.at hn h _,Below.at hn h _,fun d=>?_⟩
   cases d
   ·exact iQ f _ _ h
   ·exact h
  ·show Asks n _ (if q>0 then kas_desc f (kas_rev p (k - (q+1)) k) (k+1) 0 else kas_desc f p (k+1) 0)
   split
   ·exact iQ f _ _ (Below.rev hn h _ _)
   ·exact iQ f _ _ h⟩
theorem p3{p:Array Nat}(h:Below n p)(m r:Nat):Asks n (fun x=>Below n x.2) (kas_tail3 m r p):=Asks.bind (m8 hn (Below.rev hn h 0 m) _ _) fun _ _=>Below.rev hn h 0 m
theorem m9{p:Array Nat}(h:Below n p)(m r:Nat):Asks n (fun x=>Below n x.2) (kas_descPart m r p):=Asks.bind (iQ hn _ _ _ h) fun x hx=>by
 split
 ·exact p3 hn (Below.rev hn hx _ _) _ _
 ·exact p3 hn hx _ _
theorem v9{p:Array Nat}(h:Below n p)(r:Nat):Asks n (fun x=>Below n x.2) (kas_count r p):=Asks.bind (m8 hn h _ _) fun m _=>by
 split
 ·exact h
 ·split
  ·refine⟨Below.at hn h _,Below.at hn h _,fun c=>?_⟩
   cases c
   ·exact m9 hn (Below.rev hn h _ _) _ _
   ·exact h
  ·exact m9 hn h _ _
theorem ju{p:Array Nat}(h:Below n p)(k:Nat):∀f l r,Asks n (fun _=>True) (kas_place p k f l r)
 |0,l,r=>trivial
 |f+1,l,r=>by
  unfold kas_place
  split
  ·exact trivial
  ·refine⟨Below.at hn h _,Below.at hn h _,fun c=>?_⟩
   cases c
   ·exact ju h k f _ _
   ·exact ju h k f _ _
theorem tX:∀f {p:Array Nat} k,Below n p→Asks n (fun _=>True) (kas_bin f p k)
 |0,p,k,h=>trivial
 |f+1,p,k,h=>Asks.bind (ju hn h k _ _ _) fun l _=>tX f _ (Below.bub hn h _ _)
theorem zp:Asks n (fun _=>True) (kas_sort n):=by
 have h0:Below n (List.toArray (List.range n)):=fun x hx=>by simpa using hx
 refine Asks.bind (v9 hn h0 n) fun x hx=>?_
 split
 ·exact tX hn _ _ hx
 ·exact trivial
end
def dB:List Int→List Int→Bool
 |[],[]=>false
 |[],_::_=>true
 |_::_,[]=>false
 |x::xs,y::ys=>if x=y then dB xs ys else decide (x<y)
theorem sd:∀a b c:List Int,dB a b=true→dB b c=true→dB a c=true
 |[],[],_,h,_=>by cases h
 |[],_::_,[],_,h=>by cases h
 |[],_::_,_::_,_,_=>rfl
 |_::_,[],_,h,_=>by cases h
 |_::_,_::_,[],_,h=>by cases h
 |x::a,y::b,z::c,h1,h2=>by
  unfold dB at h1 h2⊢
  by_cases e1:x=y
  ·subst e1
   rw[if_pos rfl] at h1
   by_cases e2:x=z
   ·subst e2
    rw[if_pos rfl] at h2⊢
    exact sd a b c h1 h2
   ·rw[if_neg e2] at h2⊢
    exact h2
  ·rw[if_neg e1] at h1
   have h1:=of_decide_eq_true h1
   by_cases e2:y=z
   ·subst e2
    rw[if_neg e1]
    exact decide_eq_true h1
   ·rw[if_neg e2] at h2
    have h2:=of_decide_eq_true h2
    rw[if_neg (by omega)]
    exact decide_eq_true (by omega)
theorem j5:∀a b:List Int,dB a b=true→dB b a=false
 |[],[],h=>by cases h
 |[],_::_,_=>rfl
 |_::_,[],h=>by cases h
 |x::a,y::b,h=>by
  unfold dB at h⊢
  by_cases e:x=y
  ·subst e
   rw[if_pos rfl] at h⊢
   exact j5 a b h
  ·rw[if_neg e] at h
   have h:=of_decide_eq_true h
   rw[if_neg (fun z=>e z.symm)]
   exact decide_eq_false (by omega)
theorem nX:∀a b:List Int,a≠b→dB a b=true∨dB b a=true
 |[],[],h=>absurd rfl h
 |[],_::_,_=> .inl rfl
 |_::_,[],_=> .inr rfl
 |x::a,y::b,h=>by
  unfold dB
  by_cases e:x=y
  ·subst e
   rw[if_pos rfl,if_pos rfl]
   exact nX a b fun z=>h (by rw[z])
  ·rw[if_neg e,if_neg (fun z=>e z.symm)]
   by_cases q:x<y
   ·exact .inl (decide_eq_true q)
   ·exact .inr (decide_eq_true (by omega))
section
variable{prog:Program}{w:World}{A:Around}{E:Value→Shared→Prop}{s:Shared}
theorem uH{Q:Bool→Shared→Prop}:∀{us vs:List Value}{xs ys:List Int}(i:Nat) {fin:Bool},IntsAre us xs→IntsAre vs ys→fin=decide (xs.length<ys.length)→Q (dB xs ys) s→KatLex prog w A true fin Q (us.zip vs) i s
 |_,_,_,_,i,_, .nil, .nil,e,h=>by subst e;exact kat_nil h
 |_,_,_,_,i,_, .nil, .cons y t r,e,h=>by subst e;exact kat_nil h
 |_,_,_,_,i,_, .cons x t r, .nil,e,h=>by subst e;exact kat_nil h
 |_,_,_,_,i,_, .cons (vs:=us) (ns:=xs) x t r, .cons (vs:=vs) (ns:=ys) y u r',e,h=>by
  refine kat_cons (wpAny_eqBool_int ?_)
  by_cases q:x=y
  ·subst q
   rw[show (x==x)=true by simp]
   refine kat_yes (uH (i+1) r r' (by rw[e];simp) ?_)
   unfold dB at h
   rw[if_pos rfl] at h
   exact h
  ·rw[show (x==y)=false by simpa using q]
   unfold dB at h
   rw[if_neg q] at h
   refine kat_no ?_
   by_cases hi:(i==0)=true
   ·rw[hi]
    exact oneLt_int h
   ·rw[show (i==0)=false by simpa using hi]
    exact kat_one _ _ (PyProof.Rows.lt_int h)
def TupsAt(h:Heap):List Value→List (List Int)→Prop
 |[],[]=>True
 |v::vs,k::ks=>(∃a o us m,v= .ref a∧h.get? a=some o∧o.cls= .type "tuple"∧o.data= .seq (List.toArray us) m∧IntsAre us k∧k≠[])∧TupsAt h vs ks
 |_,_=>False
theorem TupsAt.len{h:Heap}:∀{vs:List Value}{ks:List (List Int)},TupsAt h vs ks→vs.length=ks.length
 |[],[],_=>rfl
 |v::vs,k::ks,t=>by rw[List.length_cons,List.length_cons,TupsAt.len t.2]
 |[],_::_,t=>t.elim
 |_::_,[],t=>t.elim
theorem TupsAt.get{h:Heap}:∀{vs:List Value}{ks:List (List Int)}{i:Nat},TupsAt h vs ks→i<vs.length→∃a o us m,vs.getD i Value.none= .ref a∧h.get? a=some o∧o.cls= .type "tuple"∧o.data= .seq (List.toArray us) m∧IntsAre us (ks.getD i [])∧ks.getD i []≠[]
 |v::vs,k::ks,0,t,_=>t.1
 |v::vs,k::ks,i+1,t,hi=>TupsAt.get (i:=i) t.2 (by simpa using hi)
 |[],_,_,_,hi=>by simp at hi
 |_::_,[],_,t,_=>t.elim
theorem TupsAt.keep{h h':Heap}{a:Addr}(k:∀b o,b≠a→h.get? b=some o→h'.get? b=some o)(ha:∀o,h.get? a=some o→o.cls≠ .type "tuple"):∀{vs:List Value}{ks:List (List Int)},TupsAt h vs ks→TupsAt h' vs ks
 |[],[],_=>trivial
 |v::vs,x::ks,⟨⟨b,o,us,m,e1,e2,e3,e4⟩,t⟩=>⟨⟨b,o,us,m,e1,k b o (fun z=>ha o (by rw[←z];exact e2) e3) e2,e3,e4⟩,TupsAt.keep k ha t⟩
 |[],_::_,t=>t.elim
 |_::_,[],t=>t.elim
theorem nO:∀{us:List Value}{xs:List Int},IntsAre us xs→us.length=xs.length
 |_,_, .nil=>rfl
 |_,_, .cons x t r=>by rw[List.length_cons,List.length_cons,nO r]
theorem TupsAt.firsts{M:Model}{h:Heap}:∀{vs:List Value}{ks:List (List Int)},TupsAt h vs ks→∃fs,KatTups h vs fs∧fs.length=vs.length∧∀v∈fs,Looks M h (typeOf v) (.type "int")
 |[],[],_=>⟨[],KatTups.nil,rfl,fun _ z=>by cases z⟩
 |v::vs,k::ks,⟨⟨a,o,us,m,e1,e2,e3,e4,e5,e6⟩,t⟩=>by
  obtain⟨fs,q1,q2,q3⟩:=TupsAt.firsts (M:=M) t
  subst e1
  cases e5 with
  |nil=>exact absurd rfl e6
  |cons x t r=>
   refine⟨.int x t::fs,KatTups.cons e2 e3 e4 (by simp) q1,by simp[q2],fun v hv=>?_⟩
   rcases List.mem_cons.mp hv with rfl | hv
   ·exact show Looks M h (pure (Value.type "int")) (Value.type "int") from .now
   ·exact q3 v hv
 |[],_::_,t=>t.elim
 |_::_,[],t=>t.elim
theorem asked{vs:List Value}{ks:List (List Int)}(t:TupsAt s.heap vs ks)(i j:Nat)(C:Bool→Shared→Prop)(hi:i<vs.length)(hj:j<vs.length)(h:C (dB (ks.getD i []) (ks.getD j [])) s):kas_ask prog w A (tuples' true) vs i j C s:=by
 obtain⟨a,o,us,m,e1,e2,_,e4,e5,_⟩:=t.get hi
 obtain⟨a',o',R1,m',Bf,JM,_,P6,OO,_⟩:=t.get hj
 unfold kas_ask
 rw[e1,Bf]
 refine kat_lt e2 e4 JM P6 (uH 0 e5 OO ?_ h)
 rw[List.size_toArray,List.size_toArray,nO e5,nO OO]
theorem CS{α:Type}{l:List α}(h:l.Nodup){i j:Nat}(hi:i<l.length)(hj:j<l.length)(e:l[i]=l[j]):i=j:=by
 rcases Nat.lt_trichotomy i j with q | q | q
 ·exact absurd e (List.pairwise_iff_getElem.mp h i j hi hj q)
 ·exact q
 ·exact absurd e.symm (List.pairwise_iff_getElem.mp h j i hj hi q)
theorem lP{a:Addr}{c:Nat}{vs:List Value}{ks:List (List Int)}{P:PySem.Fin→Shared→Prop}(ho:s.heap.get? a=some (seqObj "list" vs.toArray c))(ht:TupsAt s.heap vs ks)(hd:ks.Nodup)(HB:vs.length<64)
 (h:∀(p:Array Nat) (h':Heap) (c':Nat),PN vs.length p→Ri (fun i j=>dB (ks.getD i []) (ks.getD j [])) p vs.length→h'.get? a=some (seqObj "list" (List.toArray (p.toList.map fun i=>vs.getD i Value.none)) c')→
  (∀b o,b≠a→s.heap.get? b=some o→h'.get? b=some o)→P (.done (.ret .none)) {s with heap:=h'}):wpAny (model prog w) A (Builtin.«list.sort» ⟨[.ref a],[]⟩) P E s:=by
 have ur:sizeLine=16777216:=sizeLine_eq
 have s1:=Heap.SameBut.update s.heap a (Obj.mapSeq fun _=>(#[]:Array Value))
 obtain⟨e1,Pg⟩:∃e1,(s.heap.update a (Obj.mapSeq fun _=>(#[]:Array Value))).get? a=some (seqObj "list" #[] e1):=⟨_,get?_update_seq ho fun _=> #[]⟩
 have k1:∀b o,b≠a→s.heap.get? b=some o→(((s.heap.update a (Obj.mapSeq fun _=>(#[]:Array Value))).push (seqObj "tuple" vs.toArray 0)).push (seqObj "list" #[] 0)).get? b=some o:=fun b o hb e=>
  Heap.get?_push_of_some _ (Heap.get?_push_of_some _ ((s1.2 b hb).trans e))
 have Nz:=Heap.get?_push_of_some (seqObj "list" #[] 0) (Heap.get?_push_of_some (seqObj "tuple" vs.toArray 0) Pg)
 have t3:=ht.keep k1 (fun o e z=>by rw[ho] at e;cases e;exact absurd (Value.type.inj z) (by decide))
 have fin:∀(st:SortSt) (p:Array Nat),PN vs.length p→Ri (fun i j=>dB (ks.getD i []) (ks.getD j [])) p vs.length→(arrOf st).map (·.2)=List.toArray (p.toList.map fun i=>vs.getD i Value.none)→failedOf st=none→
  wpAny (model prog w) A (do
   let touched:=(←seqEpoch a) !=e1
   Builtin.List.listUpdate (.ref a) fun _=>(arrOf st).map (·.2)
   if let some e:=failedOf st then rule "list.sort.comparison-raised";throw e
   if touched then rule "list.sort.modified";raiseError "ValueError" "list modified during sort"
   ret .none) P E {s with heap:=((s.heap.update a (Obj.mapSeq fun _=>(#[]:Array Value))).push (seqObj "tuple" vs.toArray 0)).push (seqObj "list" #[] 0)}:=fun st p hp hr he hf=>by
  have hz:(List.toArray (p.toList.map fun i=>vs.getD i Value.none)).size=vs.length:=by rw[List.size_toArray,List.length_map,Array.length_toList,hp.sz]
  rw[he,hf]
  refine wpAny_bind (seqEpoch_at Nz rfl (wpAny_bind (listUpdate_at Nz rfl ?_ (Nat.zero_le _) (by rw[hz,ur];omega))))
  simp only[bne_self_eq_false,Bool.false_eq_true,if_false]
  have s2:=Heap.SameBut.update (((s.heap.update a (Obj.mapSeq fun _=>(#[]:Array Value))).push (seqObj "tuple" vs.toArray 0)).push (seqObj "list" #[] 0)) a (Obj.mapSeq fun _=>List.toArray (p.toList.map fun i=>vs.getD i Value.none))
  exact wpAny_pure (h p _ _ hp hr (get?_update_seq Nz fun _=>List.toArray (p.toList.map fun i=>vs.getD i Value.none)) fun b o hb e=>(s2.2 b hb).trans (k1 b o hb e))
 rw[list_sort_plain]
 refine wpAny_bind (listItems_at ho rfl (wpAny_bind (listUpdate_at ho rfl (wpAny_bind (seqEpoch_at Pg rfl ?_)) (by rw[List.size_toArray,ur];omega) (Nat.zero_le _))))
 refine wpAny_bind (wpAny_newTuple (wpAny_bind (wpAny_newList (wpAny_holding ?_) (Nat.zero_le _))) (by show vs.length≤_;rw[ur];omega))
 show wpAny (model prog w) A _ P E {s with heap:=((s.heap.update a (Obj.mapSeq fun _=>(#[]:Array Value))).push (seqObj "tuple" vs.toArray 0)).push (seqObj "list" #[] 0)}
 dsimp only
 by_cases hs:vs.toArray.size<2
 ·rw[if_pos hs,if_pos hs]
  have Cf:vs.length<2:=by simpa using hs
  refine wpAny_bind (wpAny_pure (wpAny_bind (wpAny_pure ?_)))
  refine fin (SortSt.mk' general' (vs.toArray.zip vs.toArray) #[] 7 none) (List.toArray (List.range vs.length)) ⟨by simp,fun i hi=>?_,fun i j hi hj _=>by omega⟩ (fun i j yt hj=>by omega) ?_ rfl
  ·rw[du];simp[hi]
  ·show (vs.toArray.zip vs.toArray).map (·.2)=_
   apply Array.toList_inj.mp
   refine List.ext_getElem (by simp) fun i a1 a2=>?_
   simp at a1
   simp[a1]
 ·rw[if_neg hs,if_neg hs]
  have Cf:2≤vs.length:=by
   have:¬vs.length<2:=by simpa using hs
   omega
  obtain⟨fs,q1,q2,q3⟩:=t3.firsts (M:=model prog w)
  refine wpAny_bind (kat_kind q1 (by omega) q3 rfl ?_)
  have hb:Lt vs.length (fun i j=>dB (ks.getD i []) (ks.getD j [])):=⟨fun i j k=>sd _ _ _,fun i j=>j5 _ _,fun i j hi hj yt=>nX _ _ fun z=>yt (by
   rw[ht.len] at hi hj
   rw[List.getD_eq_getElem?_getD,List.getD_eq_getElem?_getD,List.getElem?_eq_getElem hi,List.getElem?_eq_getElem hj] at z
   exact CS hd hi hj (by simpa using z))⟩
  obtain⟨r1,r2⟩:=D7 hb Cf
  have run:=kat_run (prog:=prog) (w:=w) (A:=A) (E:=E) (ks:=vs) (vs:=vs) (κ:=tuples' true) (Q:=fun st s'=>s'={s with heap:=((s.heap.update a (Obj.mapSeq fun _=>(#[]:Array Value))).push (seqObj "tuple" vs.toArray 0)).push (seqObj "list" #[] 0)}∧∃p,PN vs.length p∧Ri (fun i j=>dB (ks.getD i []) (ks.getD j [])) p vs.length∧(arrOf st).map (·.2)=List.toArray (p.toList.map fun i=>vs.getD i Value.none)∧failedOf st=none)
   (G:=fun p s'=>s'={s with heap:=((s.heap.update a (Obj.mapSeq fun _=>(#[]:Array Value))).push (seqObj "tuple" vs.toArray 0)).push (seqObj "list" #[] 0)}∧PN vs.length p∧Ri (fun i j=>dB (ks.getD i []) (ks.getD j [])) p vs.length) rfl Cf HB
   (fun p lR s' a1 a2 a3 a4=>⟨a4.1,p,a4.2.1,a4.2.2,kat_snds rfl a2,a3⟩)
   (wp_run (s:={s with heap:=((s.heap.update a (Obj.mapSeq fun _=>(#[]:Array Value))).push (seqObj "tuple" vs.toArray 0)).push (seqObj "list" #[] 0)}) (fun i j C hi hj hC=>asked t3 i j C hi hj hC) (zp (by omega)) ⟨rfl,r1,r2⟩)
  refine wpAny_bind (wpAny_mono run ?_ fun _ _ e=>e)
  rintro⟨⟨⟩,lR⟩ s' ⟨rfl,p,a1,a2,a3,a4⟩
  exact fin lR p a1 a2 a3 a4
end
section
variable{prog:Program}{w:World}{A:Around}{E:Value→Shared→Prop}{s:Shared}
theorem qq{d:Addr}{od:Obj}{es:Array DictEntry}{ep:Nat}{Q:Value→Shared→Prop}(lo:(d==sysModules)=false)(ho:s.heap.get? d=some od)(hx:od.ExactDict)(hd:od.data= .dict es ep)
 (hQ:Q (.ref s.heap.objs.size) {s with heap:=s.heap.push {cls:= .type "dict_keyiterator",data:= .fields #[.ref d, .int 0 0, .int es.size 0, .int ep 0]} }):wpAny (model prog w) A (pyIter (.ref d)) Q E s:=by
 have hT:s.TypeIs (.ref d) "dict":=⟨od,ho,hx.1⟩
 refine wpAny_pyIter_slot hT F.slot_dict_iter (wpAny_call_entry F.slot_dict_iter hT F.entry_dict_iter ?_ (F.args_dict_iter_1 _))
 unfold Builtin.«dict.__iter__» Builtin.Dict.dictSlotNone
 refine wpAny_bind (wpAny_bind (wpAny_notOrdered_dict hT ?_))
 show wpAny _ _ (pure (Value.ref d)) _ _ s
 refine wpAny_pure ?_
 show wpAny _ _ (Builtin.Dict.showsAll d>>=_) _ _ s
 unfold Builtin.Dict.showsAll
 rw[if_neg (by rw[lo];exact Bool.false_ne_true)]
 refine wpAny_bind (wpAny_pure (wpAny_bind (wpAny_dictEntries ho hd (wpAny_bind (wpAny_dictEpoch ho hd ?_)))))
 refine wpAny_bind (wpAny_newObj_type (wpAny_pure ⟨_,rfl,"dict_keyiterator",_,⟨_,Heap.get?_push_size _ rfl,rfl⟩,F.slot_dict_keyiterator_next.lookup,?_⟩))
 simpa[rawInt] using hQ
theorem uM{it d:Addr}{od:Obj}{es:Array DictEntry}{i ep:Nat}{e:DictEntry}{Q:Option Value→Shared→Prop}(hit:s.heap.IsKeyIter it d i es.size ep)(zX:s.heap.get? d=some od)(mK:od.data= .dict es ep)(hx:es[i]? =some e)
 (hQ:∀h',h'.IsKeyIter it d (i+1) es.size ep→Heap.SameBut it s.heap h'→Q (some e.key) {s with heap:=h'}):wpAny (model prog w) A (pyNext (.ref it)) Q E s:=by
 obtain⟨o,ho,hc,hd⟩:=id hit
 have dw:i<es.size:=(Array.getElem?_eq_some_iff.mp hx).1
 have HZ:Builtin.Dict_items.ownsTuple "dict_keyiterator"=false:=by decide
 unfold pyNext
 refine wpAny_bind (wpAny_attempt (wpAny_callSpecial?_slot (name:=Str.ofString "__next__") hit.typeIs F.slot_dict_keyiterator_next
  (wpAny_call_entry F.slot_dict_keyiterator_next hit.typeIs F.entry_dict_keyiterator_next ?_ (F.args_dict_keyiterator_next_1 _))))
 refine wpAny_bind (wpAny_pure (wpAny_bind (wpAny_bind ?_)))
 first | refine wpAny_bind (wpAny_typeNameOfWhole_keyiter hit.typeIs (wpAny_pure ?_)) | refine wpAny_bind (wpAny_typeNameOf_keyiter hit.typeIs (wpAny_pure ?_))
 refine wpAny_bind (wpAny_fieldsOf ho hd ?_)
 simp only[HZ,Bool.false_eq_true,if_false]
 show wpAny _ _ (if (Value.ref d==Value.none)=true then _ else _) _ _ s
 rw[if_neg (show¬((Value.ref d==Value.none)=true) from Bool.false_ne_true)]
 refine wpAny_bind (wpAny_pure (wpAny_bind (wpAny_dictEntries zX mK ?_)))
 rw[if_neg (by simp)]
 refine wpAny_bind (wpAny_pure (wpAny_bind (wpAny_dictEpoch zX mK ?_)))
 rw[if_neg (by simp)]
 refine wpAny_pure ?_
 simp only[show¬((i:Int)<0) from by omega,if_false,Int.toNat_natCast,hx]
 refine wpAny_bind ?_
 first | refine wpAny_bind (wpAny_typeNameOfWhole_keyiter hit.typeIs (wpAny_pure ?_)) | refine wpAny_bind (wpAny_typeNameOf_keyiter hit.typeIs (wpAny_pure ?_))
 refine wpAny_bind (wpAny_isOneOf_keyiter hit.typeIs ?_)
 show wpAny _ _ (setField (.ref it) 1 (rawInt ((i:Int)+1))>>=_) _ _ s
 refine wpAny_bind (wpAny_setField ho hd (by simp) ?_)
 have zT:(s.heap.update it (Obj.mapFields (·.setIfInBounds 1 (rawInt ((i:Int)+1))))).IsKeyIter it d (i+1) es.size ep:=
  ⟨_,Heap.get?_update_self _ ho (Obj.isFreed_of_fields (Obj.data_mapFields hd _)),(Obj.cls_mapFields ..).trans hc,by rw[Obj.data_mapFields hd];simp[rawInt]⟩
 refine wpAny_bind (wpAny_holding (wpAny_bind (wpAny_isOneOf_keyiter (s:={s with heap:=s.heap.update it (Obj.mapFields (·.setIfInBounds 1 (rawInt ((i:Int)+1))))}) zT.typeIs ?_)))
 show wpAny _ _ (pure e.key) _ _ _
 exact wpAny_pure (wpAny_pure ⟨_,rfl,wpAny_pure (hQ _ zT (Heap.SameBut.update ..))⟩)
theorem qd{it d:Addr}{od:Obj}{es:Array DictEntry}{ep i:Nat}{Q:Option Value→Shared→Prop}(hh:A.handled=none)(hit:s.heap.IsKeyIter it d i es.size ep)(hi:es.size≤i)(zX:s.heap.get? d=some od)(mK:od.data= .dict es ep)
 (hQ:∀h',Heap.ExtBut it s.heap h'→Q none {s with heap:=h'}):wpAny (model prog w) A (pyNext (.ref it)) Q E s:=by
 obtain⟨o,ho,hc,hd⟩:=id hit
 have HZ:Builtin.Dict_items.ownsTuple "dict_keyiterator"=false:=by decide
 unfold pyNext
 refine wpAny_bind (wpAny_attempt (wpAny_callSpecial?_slot (name:=Str.ofString "__next__") hit.typeIs F.slot_dict_keyiterator_next
  (wpAny_call_entry F.slot_dict_keyiterator_next hit.typeIs F.entry_dict_keyiterator_next ?_ (F.args_dict_keyiterator_next_1 _))))
 refine wpAny_bind (wpAny_pure (wpAny_bind (wpAny_bind ?_)))
 first | refine wpAny_bind (wpAny_typeNameOfWhole_keyiter hit.typeIs (wpAny_pure ?_)) | refine wpAny_bind (wpAny_typeNameOf_keyiter hit.typeIs (wpAny_pure ?_))
 refine wpAny_bind (wpAny_fieldsOf ho hd ?_)
 simp only[HZ,Bool.false_eq_true,if_false]
 show wpAny _ _ (if (Value.ref d==Value.none)=true then _ else _) _ _ s
 rw[if_neg (show¬((Value.ref d==Value.none)=true) from Bool.false_ne_true)]
 refine wpAny_bind (wpAny_pure (wpAny_bind (wpAny_dictEntries zX mK ?_)))
 rw[if_neg (by simp)]
 refine wpAny_bind (wpAny_pure (wpAny_bind (wpAny_dictEpoch zX mK ?_)))
 rw[if_neg (by simp)]
 refine wpAny_pure ?_
 simp only[show¬((i:Int)<0) from by omega,if_false,Int.toNat_natCast,Array.getElem?_eq_none hi]
 refine wpAny_bind ?_
 first | refine wpAny_bind (wpAny_typeNameOfWhole_keyiter hit.typeIs (wpAny_pure ?_)) | refine wpAny_bind (wpAny_typeNameOf_keyiter hit.typeIs (wpAny_pure ?_))
 show wpAny _ _ (setField (.ref it) 0 .none>>=_) _ _ s
 refine wpAny_bind (wpAny_setField ho hd (by simp) ?_)
 show wpAny _ _ (newExc (.type "StopIteration") []>>=_) _ _ _
 refine wpAny_bind ?_
 simp only[newExc,newTuple]
 refine wpAny_bind (wpAny_newObj_type ?_ (by size_fits))
 refine wpAny_bind (m:=firstArgMember _ _) (wpAny_of_eq (a:=Value.none) (by first | rfl | (simp only[firstArgMember];rfl)) ?_)
 refine wpAny_newObj_type ?_ (by size_fits)
 simp only[raiseNew]
 refine wpAny_bind (wpAny_handled ?_)
 rw[show A.in1.handled=none from hh]
 refine wpAny_bind (wpAny_pure (wpAny_throw ?_))
 refine wpAny_bind (wpAny_isInstance (T:="StopIteration") (b:=true) ⟨_,Heap.get?_push_size _ rfl,rfl⟩ isSubtype_stop ?_)
 exact wpAny_pure (hQ _ (((Heap.SameBut.update ..).extBut.push _).push _))
theorem BX{it d:Addr}{od:Obj}{es:Array DictEntry}{ep:Nat}{Q:Option Value→Shared→Prop}(hh:A.handled=none)(hit:s.heap.IsKeyIter it d es.size es.size ep)(zX:s.heap.get? d=some od)(mK:od.data= .dict es ep)
 (hQ:∀h',Heap.ExtBut it s.heap h'→Q none {s with heap:=h'}):wpAny (model prog w) A (pyNext (.ref it)) Q E s:=qd hh hit (Nat.le_refl _) zX mK hQ
def Gz(es:Array DictEntry):Nat→Value→Prop:=fun i v=>∃e,es[i]? =some e∧v=e.key
theorem xU(hh:A.handled=none)(I d:Addr)(gR:d≠I){od:Obj}{es:Array DictEntry}{ep:Nat}(mK:od.data= .dict es ep):
 Walks prog w A I [I,d] [I] es.size (Gz es) (fun i h=>h.IsKeyIter I d i es.size ep∧h.get? d=some od) where
 sub:=fun b hb=>by simp at hb;simp[hb]
 frame:=fun _ _ _ st hk=>⟨st.1.at fun o e=>hk I (by simp) o e,hk d (by simp) _ st.2⟩
 item:=fun i s Q E hi st hQ=>by
  have hx:es[i]? =some es[i]:=Array.getElem?_eq_getElem hi
  exact uM st.1 st.2 mK hx fun h' zT rX=>hQ _ h' s.toks ⟨_,hx,rfl⟩ ⟨zT,(rX.2 d gR).trans st.2⟩ fun b o hb e=>rX.extBut b o (fun h=>hb (by simp[h])) e
 done:=fun s Q E st hQ=>BX hh st.1 st.2 mK fun h' Nh=>hQ h' s.toks fun b o hb e=>Nh b o (fun h=>hb (by simp[h])) e
 self:=fun _ _ _ _ st hQ=>wpAny_pyIter_keyiter st.1 hQ
theorem D8{d:Addr}{od:Obj}{es:Array DictEntry}{ep:Nat}(lo:(d==sysModules)=false)(hx:od.ExactDict)(mK:od.data= .dict es ep):KdlSrc prog w "dict" d d es.size (Gz es) (fun h=>h.get? d=some od) where
 type:=fun _ hm=>⟨od,hm,hx.1⟩
 there:=fun _ hm=>⟨Heap.lt_size hm,Heap.lt_size hm⟩
 keep:=fun _ _ hm hk=>hk d (.inl rfl) od hm
 notList:=by decide
 notTuple:=by decide
 hint:=fun _ _ s _ hm hq=>kdl_hint_dict ⟨od,hm,hx.1⟩ hq
 iter:=fun _ _ hh hm=>⟨_,_,(fun _ _ hq=>qq lo hm hx mK hq),xU hh _ d (Nat.ne_of_lt (Heap.lt_size hm)) mK,⟨⟨_,Heap.get?_push_size _ rfl,rfl,rfl⟩,Heap.get?_push_of_some _ hm⟩⟩
end
end L3
namespace L3
open PySem
def insI(k:List Int):List (List Int)→List (List Int)
 |[]=>[k]
 |x::r=>if dB k x then k::x::r else x::insI k r
def sortI:List (List Int)→List (List Int)
 |[]=>[]
 |k::r=>insI k (sortI r)
def v8(l:List (List Int)):Prop:=l.Pairwise fun a b=>dB a b=true
theorem nM{k x:List Int}:∀{l:List (List Int)},x∈insI k l↔x=k∨x∈l
 |[]=>by simp[insI]
 |y::r=>by
  unfold insI
  split
  ·simp
  ·rw[List.mem_cons,nM,List.mem_cons]
   constructor
   ·rintro(h | h | h)<;>simp[h]
   ·rintro(h | h | h)<;>simp[h]
theorem ql{k:List Int}:∀{l:List (List Int)},v8 l→k∉l→v8 (insI k l)
 |[],_,_=>List.pairwise_singleton _ _
 |x::r,h,hk=>by
  have h:=List.pairwise_cons.mp h
  unfold insI
  split
  ·rename_i q
   refine List.pairwise_cons.mpr ⟨fun y hy=>?_,List.pairwise_cons.mpr h⟩
   rcases List.mem_cons.mp hy with rfl | hy
   ·exact q
   ·exact sd _ _ _ q (h.1 y hy)
  ·rename_i q
   have hx:dB x k=true:=by
    rcases nX k x (fun z=>hk (by rw[z];exact List.mem_cons_self ..)) with z | z
    ·exact absurd z q
    ·exact z
   refine List.pairwise_cons.mpr ⟨fun y hy=>?_,ql h.2 fun z=>hk (List.mem_cons_of_mem _ z)⟩
   rcases nM.mp hy with rfl | hy
   ·exact hx
   ·exact h.1 y hy
theorem c5{x:List Int}:∀{l:List (List Int)},x∈sortI l↔x∈l
 |[]=>Iff.rfl
 |k::r=>by unfold sortI;rw[nM,c5,List.mem_cons]
theorem fb:∀{l:List (List Int)},l.Nodup→v8 (sortI l)
 |[],_=>List.Pairwise.nil
 |k::r,h=>by
  have h:=List.nodup_cons.mp h
  exact ql (fb h.2) fun z=>h.1 (c5.mp z)
theorem kD:∀{a b:List (List Int)},v8 a→v8 b→(∀x,x∈a↔x∈b)→a=b
 |[],[],_,_,_=>rfl
 |[],y::b,_,_,h=>by have:=(h y).mpr (List.mem_cons_self ..);cases this
 |x::a,[],_,_,h=>by have:=(h x).mp (List.mem_cons_self ..);cases this
 |x::a,y::b,ha,hb,h=>by
  have ha:=List.pairwise_cons.mp ha
  have hb:=List.pairwise_cons.mp hb
  have e:x=y:=by
   rcases List.mem_cons.mp ((h x).mp (List.mem_cons_self ..)) with q | q
   ·exact q
   ·rcases List.mem_cons.mp ((h y).mpr (List.mem_cons_self ..)) with p | p
    ·exact p.symm
    ·have z1:=hb.1 x q
     have z2:=ha.1 y p
     rw[j5 _ _ z1] at z2
     cases z2
  subst e
  have Pt:∀k,dB k k≠true:=fun k z=>by have:=j5 _ _ z;rw[z] at this;cases this
  rw[kD ha.2 hb.2 fun z=>?_]
  constructor
  ·intro hz
   rcases List.mem_cons.mp ((h z).mp (List.mem_cons_of_mem _ hz)) with q | q
   ·subst q;exact absurd (ha.1 z hz) (Pt z)
   ·exact q
  ·intro hz
   rcases List.mem_cons.mp ((h z).mpr (List.mem_cons_of_mem _ hz)) with q | q
   ·subst q;exact absurd (hb.1 z hz) (Pt z)
   ·exact q
theorem xA:∀(n:Nat) (l:List Nat),l.Nodup→(∀x∈l,x<n)→l.length=n→∀k,k<n→k∈l
 |0,_,_,_,_,k,hk=>by omega
 |n+1,l,hd,hl,hn,k,hk=>by
  by_cases h:n∈l
  ·by_cases e:k=n
   ·subst e;exact h
   ·refine List.mem_of_mem_erase (xA n (l.erase n) (hd.erase n) (fun x hx=>?_) (by rw[List.length_erase_of_mem h,hn];rfl) k (by omega))
    have hx:=hd.mem_erase_iff.mp hx
    have:=hl x hx.2
    have:=hx.1
    omega
  ·cases l with
   |nil=>simp at hn
   |cons x r=>
    have hd:=List.nodup_cons.mp hd
    have lt:∀y∈x::r,y<n:=fun y hy=>by
     have:=hl y hy
     have:y≠n:=fun z=>h (by rw[←z];exact hy)
     omega
    exact absurd (xA n r hd.2 (fun y hy=>lt y (List.mem_cons_of_mem _ hy)) (by simpa using hn) x (lt x (List.mem_cons_self ..))) hd.1
theorem lQ{ks:List (List Int)}{p:Array Nat}(hd:ks.Nodup)(P:PN ks.length p)(R:Ri (fun i j=>dB (ks.getD i []) (ks.getD j [])) p ks.length):(p.toList.map fun i=>ks.getD i [])=sortI ks:=by
 have hsz:p.toList.length=ks.length:=by rw[Array.length_toList];exact P.sz
 have JR:∀i (h:i<p.toList.length),p.toList[i]=at' p i:=fun i h=>by
  have h':i<p.size:=by rw[Array.length_toList] at h;exact h
  rw[du,Array.getElem?_eq_getElem h']
  simp
 refine kD ?_ (fb hd) fun x=>?_
 ·refine List.pairwise_iff_getElem.mpr fun i j hi hj yt=>?_
  rw[List.length_map] at hi hj
  rw[List.getElem_map,List.getElem_map,JR i hi,JR j hj]
  exact R i j yt (by omega)
 ·rw[c5]
  constructor
  ·intro hx
   obtain⟨i,hi,rfl⟩:=List.mem_map.mp hx
   obtain⟨j,hj,rfl⟩:=List.mem_iff_getElem.mp hi
   have:=P.lt j (by omega)
   rw[JR j hj,List.getD_eq_getElem?_getD,List.getElem?_eq_getElem this]
   exact List.getElem_mem this
  ·intro hx
   obtain⟨k,hk,rfl⟩:=List.mem_iff_getElem.mp hx
   have yw:k∈p.toList:=by
    have hn:p.toList.Nodup:=List.pairwise_iff_getElem.mpr fun i j hi hj yt z=>by
     rw[JR i hi,JR j hj] at z
     have:=P.inj i j (by omega) (by omega) z
     omega
    exact xA ks.length p.toList hn (fun x hx=>by
     obtain⟨j,hj,rfl⟩:=List.mem_iff_getElem.mp hx
     rw[JR j hj]
     exact P.lt j (by omega)) hsz k hk
   refine List.mem_map.mpr ⟨k,yw,?_⟩
   rw[List.getD_eq_getElem?_getD,List.getElem?_eq_getElem hk]
   rfl
end L3
namespace L3
open PySem PySem.Spec L2 SeqAt HT
open PyProof.Rows hiding St
def tupI(k:List Int):D:= .tup (k.map D.int)
def G3:D→Option (List Int)
 | .tup ds=>nums ds
 |_=>none
def eU:List D→Option (List (List Int))
 |[]=>some []
 |d::ds=>match G3 d,eU ds with
  |some k,some ks=>some (k::ks)
  |_,_=>none
def cT(ks:List (List Int)):Bool:=decide ks.Nodup&&decide (ks.length<64)&&ks.all fun k=>!k.isEmpty
def xK:List D→M D
 |[.lst ds]=>match eU ds with
  |some ks=>if cT ks then M.ret (.lst ((sortI ks).map tupI)) else M.stuck
  |none=>M.stuck
 |_=>M.stuck
def b9(H:Hp):List V→List (List Int)→Prop:=Paired fun v k=>∃a,v= .ref a∧H a=some (.tup (k.map V.int))
theorem lb{K:W.Frag}{F H:Hp}(hs:Same F H):∀{ds:List D}{vs:List V}{ks:List (List Int)},eU ds=some ks→DenL K F ds vs→b9 H vs ks∧b9 F vs ks
 |[],_,_,e,h=>by cases e;cases (show _=_ from h);exact⟨.nil, .nil⟩
 |d::ds,_,_,e,⟨v,r,h1,h2,h3⟩=>by
  subst h1
  unfold eU at e
  split at e
  ·rename_i k ks e1 e2
   cases e
   obtain⟨NW,NX⟩:=lb hs e2 h3
   cases d with
   |tup es=>
    obtain⟨a,ws,rfl,k2,k3,_⟩:=h2
    have:=g9 e1 k3
    subst this
    exact⟨.cons ⟨a,rfl,hs _ _ k2⟩ NW, .cons ⟨a,rfl,k2⟩ NX⟩
   |_=>cases e1
  ·cases e
theorem kB{K:W.Frag}{F:Hp}:∀{ws:List V}{ks:List (List Int)},b9 F ws ks→(∀k∈ks,k.length≤lim)→DenL K F (ks.map tupI) ws
 |_,_, .nil,_=>rfl
 |_,_, .cons (b:=k) h t,hl=>by
  obtain⟨a,rfl,h⟩:=h
  exact .cons ⟨a,_,rfl,h,DenL.ints k,by rw[List.length_map];exact hl k (List.mem_cons_self ..)⟩ (kB t fun k hk=>hl k (List.mem_cons_of_mem _ hk))
theorem i7{X:Cx}{pins:List (Addr×Obj)}{σ:St}{H:Hp}{s:Shared}(I:Inv X pins σ H s):∀{vs:List V}{aD:List Value}{ks:List (List Int)},b9 H vs ks→Vals vs aD→(∀k∈ks,k≠[])→TupsAt s.heap aD ks
 |_,_,_, .nil,r,_=>by cases r;exact trivial
 |_,_,_, .cons (b:=k) h t,r,hn=>by
  obtain⟨a,rfl,h⟩:=h
  cases r with
  |cons r1 r2=>
   cases (show _=_ from r1)
   obtain⟨us,ru,pt,_⟩:=I.tuple (SqT.of (K:=X.K) h)
   obtain⟨o,q1,q2,m,q3⟩:=pt
   exact⟨⟨a,o,us,m,rfl,q1,q2,q3,intsAre_of ru,hn k (List.mem_cons_self ..)⟩,i7 I t r2 fun k hk=>hn k (List.mem_cons_of_mem _ hk)⟩
theorem kC{H:Hp}:∀{vs:List V}{ks:List (List Int)}{i:Nat},b9 H vs ks→i<vs.length→∃a,vs.getD i .non= .ref a∧H a=some (.tup ((ks.getD i []).map V.int))
 |_,_,i, .nil,hi=>by simp at hi
 |_,_,0, .cons h t,_=>h
 |_,_,i+1, .cons h t,hi=>kC (i:=i) t (by simpa using hi)
theorem eZ{H:Hp}:∀{vs:List V}{ks:List (List Int)},b9 H vs ks→vs.length=ks.length
 |_,_, .nil=>rfl
 |_,_, .cons h t=>by rw[List.length_cons,List.length_cons,eZ t]
theorem f7{H:Hp}{vs:List V}{ks:List (List Int)}(h:b9 H vs ks):∀{is:List Nat},(∀i∈is,i<vs.length)→b9 H (is.map fun i=>vs.getD i .non) (is.map fun i=>ks.getD i [])
 |[],_=> .nil
 |i::is,hi=> .cons (kC h (hi i (List.mem_cons_self ..))) (f7 h fun j hj=>hi j (List.mem_cons_of_mem _ hj))
theorem gc:∀{vs:List V}{us:List Value}(i:Nat),Vals vs us→i<vs.length→RelV (vs.getD i .non) (us.getD i Value.none)
 |_,_,i, .nil,hi=>by simp at hi
 |_,_,0, .cons h t,_=>h
 |_,_,i+1, .cons h t,hi=>gc i t (by simpa using hi)
theorem jc{vs:List V}{us:List Value}(h:Vals vs us):∀{is:List Nat},(∀i∈is,i<vs.length)→Vals (is.map fun i=>vs.getD i .non) (is.map fun i=>us.getD i Value.none)
 |[],_=> .nil
 |i::is,hi=> .cons (gc i h (hi i (List.mem_cons_self ..))) (jc h fun j hj=>hi j (List.mem_cons_of_mem _ hj))
def Oh(K:W.Frag):List V→Hp→VK→Prop:=fun xs H Q=>∃p vs ks,xs=[.ref p]∧SqL K H p vs∧b9 H vs ks∧cT ks=true∧∀(q:Addr) (is:List Nat),H q=none→(∀i∈is,i<vs.length)→is.length=vs.length→(is.map fun i=>ks.getD i [])=sortI ks→Q (.ref q) (upd H q (.lst (is.map fun i=>vs.getD i .non)))
section
variable{X:Cx}{Xw:Nat→Hp→Prop}{e:Expr}{δs:DA}{pos p:Pos}
theorem BE:CallR X (.builtin "sorted") (Oh X.K):=by
 intro pins s σ H xs us Q I r h
 obtain⟨a,vs,ks,rfl,hq,hr,hk,q⟩:=h
 obtain⟨u,rfl,r1⟩:=r.one
 cases (show u=_ from r1)
 obtain⟨aD,rv,pl,hz⟩:=I.list hq
 unfold cT at hk
 rw[Bool.and_eq_true,Bool.and_eq_true] at hk
 have hd:ks.Nodup:=of_decide_eq_true hk.1.1
 have HB:ks.length<64:=of_decide_eq_true hk.1.2
 have gR:∀k∈ks,k≠[]:=fun k qj z=>by have:=List.all_eq_true.mp hk.2 k qj;rw[z] at this;cases this
 have rV:=eZ hr
 have Cf:=rv.length
 have ur:sizeLine=16777216:=sizeLine_eq
 have ht:=i7 I hr rv gR
 refine Calls.call_function_entry kind_sorted plain_sorted entry_sorted (args_sorted1 _) ?_
 unfold Builtin.«sorted»
 refine wpAny_bind (m:=checkCount "sorted" 1 1 _) (wpAny_pure (wpAny_bind (collect_list pl.isList (wpAny_bind (wpAny_newList ?_ (by rw[ur];omega))) (by rw[ur];omega))))
 have hsz:((s.heap.push (seqObj "list" #[] 0)).update s.heap.objs.size (Obj.mapSeq (· ++aD.toArray))).objs.size=s.heap.objs.size+1:=by rw[Heap.size_update,size_push']
 have keep:∀b o,s.heap.get? b=some o→(((s.heap.push (seqObj "list" #[] 0)).update s.heap.objs.size (Obj.mapSeq (· ++aD.toArray))).push (seqObj "list" aD.toArray 0)).get? b=some o:=fun b o e=>by
  have dw:=Heap.lt_size e
  exact Heap.get?_push_of_some _ ((Heap.get?_update_ne _ _ _ _ (Nat.ne_of_lt dw)).trans (Heap.get?_push_of_some _ e))
 have EA:(((s.heap.push (seqObj "list" #[] 0)).update s.heap.objs.size (Obj.mapSeq (· ++aD.toArray))).push (seqObj "list" aD.toArray 0)).get? (s.heap.objs.size+1)=some (seqObj "list" aD.toArray 0):=by
  rw[←hsz];exact Heap.get?_push_size _ rfl
 show wpAny _ _ _ _ _ {s with heap:=((s.heap.push (seqObj "list" #[] 0)).update s.heap.objs.size (Obj.mapSeq (· ++aD.toArray))).push (seqObj "list" aD.toArray 0)}
 rw[hsz]
 refine wpAny_bind (wpAny_holding (wpAny_call_entry slot_list_sort ⟨_,EA,rfl⟩ entry_list_sort (lP (s:={s with heap:=((s.heap.push (seqObj "list" #[] 0)).update s.heap.objs.size (Obj.mapSeq (· ++aD.toArray))).push (seqObj "list" aD.toArray 0)}) EA
  (ht.keep (a:=s.heap.objs.size) (fun b o _ e=>keep b o e) (fun o e=>absurd (Heap.lt_size e) (Nat.lt_irrefl _))) hd (by omega) fun P h' c' hP hR wG uq=>?_) (args_list_sort _)))
 have EY:∀i∈P.toList,i<vs.length:=fun i hi=>by
  obtain⟨j,hj,rfl⟩:=List.mem_iff_getElem.mp hi
  have h':j<P.size:=by rw[Array.length_toList] at hj;exact hj
  have:=hP.lt j (by rw[hP.sz] at h';exact h')
  rw[du,Array.getElem?_eq_getElem h'] at this
  have e:P.toList[j]=P[j]:=by simp
  rw[e]
  have:P[j]<aD.length:=this
  omega
 have GS:PN ks.length P:=by rw[←rV,Cf];exact hP
 have Kn:Ri (fun i j=>dB (ks.getD i []) (ks.getD j [])) P ks.length:=by rw[←rV,Cf];exact hR
 have G2:=lQ hd GS Kn
 have wF:H (s.heap.objs.size+1)=none:=I.hok.fresh (Nat.le_succ _)
 refine⟨_,rfl,wpAny_pure ⟨_,rfl,⟨.ref (s.heap.objs.size+1),_,I.laid (a:=s.heap.objs.size+1) (t':=s.toks) (o:= .lst (P.toList.map fun i=>vs.getD i .non)) (fun b ob e=>uq b ob (Nat.ne_of_lt (Nat.lt_succ_of_lt (Heap.lt_size e))) (keep b ob e)) (Nat.le_succ _) ?_,rfl,q _ P.toList wF EY (by rw[Array.length_toList,hP.sz];omega) G2⟩⟩⟩
 exact⟨by rw[List.length_map,Array.length_toList,hP.sz,ur];omega,_,c',jc rv EY,wG⟩
theorem lg{K:W.Frag}{F:Hp}:∀{ds:List D}{vs:List V}{ks:List (List Int)},eU ds=some ks→DenL K F ds vs→∀k∈ks,k.length≤lim
 |[],_,_,e,_=>by cases e;exact fun k hk=>by cases hk
 |d::ds,_,_,e,⟨v,r,h1,h2,h3⟩=>by
  unfold eU at e
  split at e
  ·rename_i k ks e1 e2
   cases e
   intro k' qj
   rcases List.mem_cons.mp qj with rfl | qj
   ·cases d with
    |tup es=>
     obtain⟨a,ws,rfl,k2,k3,k4⟩:=h2
     have:=g9 e1 k3
     have hl:=k3.len
     rw[this,List.length_map] at hl
     omega
    |_=>cases e1
   ·exact lg e2 h3 k' qj
  ·cases e
theorem i_:∀l:List (List Int),(sortI l).length=l.length
 |[]=>rfl
 |k::r=>by
  have ins:∀(k:List Int) (l:List (List Int)),(insI k l).length=l.length+1:=by
   intro k l
   induction l with
   |nil=>rfl
   |cons x l ih=>
    unfold insI
    split
    ·rfl
    ·rw[List.length_cons,ih,List.length_cons]
  unfold sortI
  rw[ins,i_ r,List.length_cons]
theorem Dh(hg:Gl X "sorted")(hm:X.mg "sorted"=none)(hb:bootBuiltins "sorted"=some (.builtin "sorted"))(ha:kP X Xw [e] δs)(he:starEach [e] X.env=[(false,eval e X.env)]:=by rfl):PD X Xw (.Call (.Name "sorted" p) [e] [] pos) (dA xK δs):=
 dE BE (fun Xw F H vs ds Q s h w=>by
  unfold xK at w
  split at w
  ·rename_i ds
   obtain⟨v,rfl,h1⟩:=h.one
   obtain⟨a,ws,rfl,h2,h3,h4⟩:=h1
   split at w
   ·rename_i ks Bi
    split at w
    ·rename_i hok
     obtain⟨r1,r2⟩:=lb s Bi h3
     have QW:=lg Bi h3
     refine⟨a,ws,ks,rfl,SqL.of (s _ _ h2),r1,hok,fun q is hq hi hl hs=>WP.fin w (Ext.lay s hq) ⟨q,_,rfl,aF,DenL.mono (Ext.lay s hq).ff ?_,?_⟩⟩
     ·have:=f7 r2 hi
      rw[hs] at this
      exact kB this fun k hk=>QW k (c5.mp hk)
     ·rw[List.length_map,i_,←eZ r1,←h3.len]
      exact h4
    ·exact w.elim
   ·exact w.elim
  ·exact w.elim) hg hm hb ha (by decide) (by decide) he rfl
end
def nT(k:List Int):List Key:=k.map Sum.inl
def LM:List V→Hp→VK→Prop:=fun xs H Q=>∃p ar ks,xs=[.ref p]∧Rd H p (.dT ar)∧ar.map (·.1)=ks.map nT∧cT ks=true∧∀(q:Addr) (ws:List V),H q=none→b9 H ws (sortI ks)→Q (.ref q) (upd H q (.lst ws))
theorem qw{H:Hp}:∀{ar:List (List Key×V)}{xs:List (List Key×Addr×Value)}{ks:List (List Int)},Paired (fun (p:List Key×V) (q:List Key×Addr×Value)=>p.1=q.1∧H q.2.1=some (.tup (p.1.map kV))∧RelV p.2 q.2.2) ar xs→
 ar.map (·.1)=ks.map nT→b9 H (xs.map fun x=>V.ref x.2.1) ks
 |_,_,[], .nil,_=> .nil
 |_,_,_::_, .nil,e=>by simp at e
 |_,_,[], .cons h t,e=>by simp at e
 |_,_,k::ks, .cons h t,e=>by
  rw[List.map_cons,List.map_cons] at e
  injection e with e1 e2
  refine .cons ⟨_,rfl,?_⟩ (qw t e2)
  have hk:(nT k).map kV=k.map V.int:=by unfold nT;rw[List.map_map];rfl
  rw[h.2.1,e1,hk]
section
variable{X:Cx}{Xw:Nat→Hp→Prop}{e:Expr}{δs:DA}{pos p:Pos}
theorem zy(hc:X.calm=true):CallR X (.builtin "sorted") LM:=by
 intro pins s σ H xs us Q I r h
 obtain⟨a,ar,ks,rfl,hH,E3,hk,q⟩:=h
 obtain⟨u,rfl,r1⟩:=r.one
 cases (show u=_ from r1)
 obtain⟨z,lo,xs,rel,o,es,ep,g1,g2,g3,g4,g5⟩:=(show ObjOk X.prog X.w H s.heap a (.dT ar) from hH.ok I.hok)
 unfold cT at hk
 rw[Bool.and_eq_true,Bool.and_eq_true] at hk
 have hd:ks.Nodup:=of_decide_eq_true hk.1.1
 have HB:ks.length<64:=of_decide_eq_true hk.1.2
 have gR:∀k∈ks,k≠[]:=fun k qj z=>by have:=List.all_eq_true.mp hk.2 k qj;rw[z] at this;cases this
 have hr:=qw rel E3
 have rV:=eZ hr
 rw[List.length_map] at rV
 have Me:es.size=xs.length:=by rw[←Array.length_toList,g4,List.length_map]
 have ur:sizeLine=16777216:=sizeLine_eq
 refine Calls.call_function_entry kind_sorted plain_sorted entry_sorted (args_sorted1 _) ?_
 unfold Builtin.«sorted»
 refine wpAny_bind (m:=checkCount "sorted" 1 1 _) (wpAny_pure (wpAny_bind (PySem.W.kdu_collect (A:=X.A.in1) (D8 lo g2 g3) (I.ok.hd hc) g1 (by rw[Me,ur];omega) fun h1 tk acc Cz pM=>?_)))
 have Kt:acc.toList.length=xs.length:=by rw[Array.length_toList,←Me];exact pM.1
 have I1:Inv X pins σ H {s with heap:=h1,toks:=tk}:=I.kept (t':=tk) fun b ob e=>Cz b ob e
 have rv:Vals (xs.map fun x=>V.ref x.2.1) acc.toList:=by
  have ext:∀{vs:List V}{us:List Value},vs.length=us.length→(∀(i:Nat) (v:V) (u:Value),vs[i]? =some v→us[i]? =some u→RelV v u)→Vals vs us:=by
   intro vs
   induction vs with
   |nil=>intro us h _;cases us with | nil=>exact .nil | cons _ _=>simp at h
   |cons v vs ih=>
    intro us h hh
    cases us with
    |nil=>simp at h
    |cons u us=>exact .cons (hh 0 v u rfl rfl) (ih (by simpa using h) fun i v u h1 h2=>hh (i+1) v u h1 h2)
  refine ext (by rw[List.length_map,Kt]) fun i v u e1 e2=>?_
  rw[Array.getElem?_toList] at e2
  obtain⟨en,q1,q2⟩:=pM.2 i u e2
  rw[←Array.getElem?_toList,g4,List.getElem?_map] at q1
  rw[List.getElem?_map] at e1
  cases w:xs[i]? with
  |none=>rw[w] at e1;cases e1
  |some x=>
   rw[w] at e1 q1
   cases e1
   cases q1
   exact q2
 have ht:=i7 I1 hr rv gR
 refine wpAny_bind (wpAny_newList ?_ (by rw[ur];omega))
 have EA:(h1.push (seqObj "list" acc.toList.toArray 0)).get? h1.objs.size=some (seqObj "list" acc.toList.toArray 0):=Heap.get?_push_size _ rfl
 refine wpAny_bind (wpAny_holding (wpAny_call_entry slot_list_sort ⟨_,EA,rfl⟩ entry_list_sort (lP (s:={s with heap:=h1.push (seqObj "list" acc.toList.toArray 0),toks:=tk}) EA
  (ht.keep (a:=h1.objs.size) (fun b o _ e=>Heap.get?_push_of_some _ e) (fun o e=>absurd (Heap.lt_size e) (Nat.lt_irrefl _))) hd (by omega) fun P h' c' hP hR wG uq=>?_) (args_list_sort _)))
 have EY:∀i∈P.toList,i<(xs.map fun x=>V.ref x.2.1).length:=fun i hi=>by
  obtain⟨j,hj,rfl⟩:=List.mem_iff_getElem.mp hi
  have h':j<P.size:=by rw[Array.length_toList] at hj;exact hj
  have:=hP.lt j (by rw[hP.sz] at h';exact h')
  rw[du,Array.getElem?_eq_getElem h'] at this
  have e:P.toList[j]=P[j]:=by simp
  rw[e,List.length_map]
  have:P[j]<acc.toList.length:=this
  omega
 have GS:PN ks.length P:=by rw[←rV,←Kt];exact hP
 have Kn:Ri (fun i j=>dB (ks.getD i []) (ks.getD j [])) P ks.length:=by rw[←rV,←Kt];exact hR
 have G2:=lQ hd GS Kn
 have K6:=f7 hr EY
 rw[G2] at K6
 refine⟨_,rfl,wpAny_pure ⟨_,rfl,⟨.ref h1.objs.size,_,I1.laid (a:=h1.objs.size) (t':=tk) (o:= .lst (P.toList.map fun i=>(xs.map fun x=>V.ref x.2.1).getD i .non)) (fun b ob e=>uq b ob (Nat.ne_of_lt (Heap.lt_size e)) (Heap.get?_push_of_some _ e)) (Nat.le_refl _) ?_,rfl,q _ _ (I1.hok.fresh (Nat.le_refl _)) K6⟩⟩⟩
 exact⟨by rw[List.length_map,Array.length_toList,hP.sz,ur];omega,_,c',jc rv EY,wG⟩
theorem qY{F F':Hp}(e:Same F F'):∀{ws:List V}{ks:List (List Int)},b9 F ws ks→b9 F' ws ks
 |_,_, .nil=> .nil
 |_,_, .cons ⟨b,q1,q2⟩ t=> .cons ⟨b,q1,e _ _ q2⟩ (qY e t)
theorem oX{F H:Hp}(hs:Same F H):∀{ws:List V}{ks:List (List Int)},b9 H ws ks→∃F',Ext F H F' H∧b9 F' ws ks
 |_,_, .nil=>⟨F,Ext.refl hs, .nil⟩
 |_,_, .cons h t=>by
  obtain⟨a,rfl,h⟩:=h
  obtain⟨F1,e1,r1⟩:=oX hs t
  have e2:=Ext.tup (F:=F1) e1.fh h
  refine⟨_,e1.trans e2, .cons ⟨a,rfl,aF⟩ ?_⟩
  exact qY e2.ff r1
def qm:List Key→Option (List Int)
 |[]=>some []
 | .inl i::r=>(qm r).map (i:: ·)
 |_=>none
def eT:List (List Key)→Option (List (List Int))
 |[]=>some []
 |k::r=>match qm k,eT r with
  |some x,some xs=>some (x::xs)
  |_,_=>none
theorem uw:∀{k:List Key}{x:List Int},qm k=some x→k=nT x
 |[],_,e=>by cases e;rfl
 | .inl i::r,_,e=>by
   unfold qm at e
   cases q:qm r with
   |none=>rw[q] at e;cases e
   |some y=>rw[q] at e;cases e;rw[uw q];rfl
 | .inr _::r,_,e=>by cases e
theorem k_:∀{kk:List (List Key)}{ks:List (List Int)},eT kk=some ks→kk=ks.map nT
 |[],_,e=>by cases e;rfl
 |k::r,_,e=>by
  unfold eT at e
  split at e
  ·rename_i x xs e1 e2
   cases e
   rw[List.map_cons,←uw e1,←k_ e2]
  ·cases e
def iI:List D→M D
 |[.dct kk ds]=>match eT kk with
  |some ks=>if cT ks&&ks.all (fun k=>decide (k.length≤lim)) then M.ret (.lst ((sortI ks).map tupI)) else M.stuck
  |none=>M.stuck
 |_=>M.stuck
theorem jd{α β:Type}:∀{a:List α}{b:List β},a.length=b.length→(a.zip b).map (·.1)=a
 |[],[],_=>rfl
 |x::a,y::b,h=>by rw[List.zip_cons_cons,List.map_cons,jd (by simpa using h)]
 |[],_::_,h=>by simp at h
 |_::_,[],h=>by simp at h
theorem yX(hc:X.calm=true)(hg:Gl X "sorted")(hm:X.mg "sorted"=none)(hb:bootBuiltins "sorted"=some (.builtin "sorted"))(ha:kP X Xw [e] δs)(he:starEach [e] X.env=[(false,eval e X.env)]:=by rfl):PD X Xw (.Call (.Name "sorted" p) [e] [] pos) (dA iI δs):=
 dE (zy hc) (fun Xw F H vs ds Q s h w=>by
  unfold iI at w
  split at w
  ·rename_i kk ds
   obtain⟨v,rfl,h1⟩:=h.one
   obtain⟨a,ob,ws,rfl,h2,h3,h4,h5⟩:=h1
   split at w
   ·rename_i ks Bi
    split at w
    ·rename_i hok
     rw[Bool.and_eq_true] at hok
     have hl:∀k∈ks,k.length≤lim:=fun k hk=>of_decide_eq_true (List.all_eq_true.mp hok.2 k hk)
     have HB:ks.length<64:=by
      have:=hok.1
      unfold cT at this
      rw[Bool.and_eq_true,Bool.and_eq_true] at this
      exact of_decide_eq_true this.1.2
     refine⟨a,_,ks,rfl, .inr ⟨ob,s _ _ h2⟩,by rw[jd (by rw[h4];exact h3.len),k_ Bi],hok.1,fun q us hq hr=>?_⟩
     obtain⟨F1,e1,r1⟩:=oX s hr
     have e2:=Ext.lay (o:= .lst us) e1.fh hq
     exact WP.fin w (e1.trans e2) ⟨q,_,rfl,aF,DenL.mono e2.ff (kB r1 fun k hk=>hl k (c5.mp hk)),by rw[List.length_map,i_];unfold lim;omega⟩
    ·exact w.elim
   ·exact w.elim
  ·exact w.elim) hg hm hb ha (by decide) (by decide) he rfl
end
end L3
namespace L3
open PySem PySem.Spec L2
open PyProof.Rows hiding St
def orM{α:Type}(a b:M α):M α:=match a with
 |none=>b
 |some r=>some r
def Ie(a b:DA):DA:=fun ρ=>orM (a ρ) (b ρ)
section
variable{X:Cx}{Xw:Nat→Hp→Prop}{e tg:Expr}{es:List Expr}{δ δ':DE}{δi δi' δs:DA}{τ:DT}
theorem FN(h:v7 X Xw tg e δi)(h':v7 X Xw tg e δi'):v7 X Xw tg e (Ie δi δi'):=fun pins s σ H Q I ⟨F,ρ,S,w⟩=>by
 unfold Ie orM at w
 cases q:δi ρ with
 |none=>rw[q] at w;exact h' pins s σ H Q I ⟨F,ρ,S,w⟩
 |some r=>rw[q] at w;exact h pins s σ H Q I ⟨F,ρ,S,by rw[q];exact w⟩
theorem lD{st:Stmt}:kR X Xw st (fun _=>M.stuck):=fun F₀ H₀ pins s σ H D I ⟨F,ρ,S,w⟩=>w.elim
end
def fgt:List Nat→a9→a9
 |[],ρ=>ρ
 |i::is,ρ=>fgt is (ρ.set i none)
def Ls(f:a9→a9):Out→M Out
 | .nx ρ=>M.ret (.nx (f ρ))
 | .rt d=>M.ret (.rt d)
def cH(is:List Nat)(τ:DS):DS:=fun ρ=>τ ρ>>=Ls (fgt is)
theorem StOk.fgt1{K:W.Frag}{F₀ H₀ F H:Hp}{σ:St}{ρ:a9}(s:StOk K F₀ H₀ F H σ ρ)(i:Nat):StOk K F₀ H₀ F H σ (ρ.set i none):=by
 have get:∀(j:Nat) (sl:Sl),(ρ.set i none)[j]? =some (some sl)→ρ[j]? =some (some sl):=fun j sl e=>by
  by_cases hj:j=i
  ·subst hj
   by_cases hl:j<ρ.length
   ·rw[List.getElem?_set_self hl] at e;cases e
   ·rw[List.getElem?_eq_none (by simpa using hl)] at e;cases e
  ·rw[List.getElem?_set_ne (Ne.symm hj)] at e;exact e
 exact⟨s.ext,⟨s.st.fh,fun j sl e=>s.st.den j sl (get j sl e)⟩,by simp[s.len],fun j c a e e'=>s.own j c a (get j _ e) e',fun j k c c' a e1 e2 e3 e4=>s.sep j k c c' a (get j _ e1) (get k _ e2) e3 e4⟩
theorem StOk.fgt{K:W.Frag}{F₀ H₀ F H:Hp}{σ:St}:∀(is:List Nat) {ρ:a9},StOk K F₀ H₀ F H σ ρ→StOk K F₀ H₀ F H σ (L3.fgt is ρ)
 |[],_,s=>s
 |i::is,_,s=>StOk.fgt is (s.fgt1 i)
theorem WPS.fgt{K:W.Frag}{Xw:Nat→Hp→Prop}{F₀ H₀:Hp}{is:List Nat}{m:M Out}{Dn:Ends}(w:WPS K Xw F₀ H₀ (m>>=Ls (L3.fgt is)) Dn):WPS K Xw F₀ H₀ m Dn:=by
 match m,w with
 |none,w=>exact w
 |some (.ok (.nx ρ)),w=>exact fun σ F H s=>w σ F H (s.fgt is)
 |some (.ok (.rt d)),w=>exact w
 |some (.ex n),w=>exact w
section
variable{X:Cx}{Xw:Nat→Hp→Prop}{st:Stmt}{PK:List Stmt}{τ:DS}{is:List Nat}
theorem bB(h:PSDs X Xw PK τ):PSDs X Xw PK (cH is τ):=fun F₀ H₀=>PSs.weak (h F₀ H₀) fun D σ H ⟨F,ρ,s,w⟩=>⟨F,ρ,s,WPS.fgt w⟩
end
def Qf:Option Sl→Option Sl
 |some (.ow c)=>some (.fz c.d)
 |x=>x
def GQ(ρ:a9):a9:=ρ.map Qf
def refA(h:Heap)(P:Addr→Prop)[DecidablePred P](H:Hp):Hp:=fun b=>if P b then(H b).map (gZ ((h.get? b).getD {cls:= .none,data:= .fields #[]})) else H b
theorem wA(ob:Obj)(o:HO):gZ ob o=o∨((∃k,o= .dT k)∨∃k,o= .dK k)∧gZ ob o= .frz ob o:=by
 cases o<;>first | exact .inl rfl | exact .inr ⟨.inl ⟨_,rfl⟩,rfl⟩ | exact .inr ⟨.inr ⟨_,rfl⟩,rfl⟩
section
variable{X:Cx}{pins:List (Addr×Obj)}{σ:St}{H:Hp}{s:Shared}{P:Addr→Prop}[DecidablePred P]
theorem f6{h:Heap}{b:Addr}(e:H b=none):refA h P H b=none:=by
 unfold refA;split
 ·rw[e];rfl
 ·exact e
theorem qX{h:Heap}{b:Addr}{o:HO}(e:H b=some o):refA h P H b=some o∨((∃k,o= .dT k)∨∃k,o= .dK k)∧P b∧refA h P H b=some (.frz ((h.get? b).getD {cls:= .none,data:= .fields #[]}) o):=by
 unfold refA;split
 ·rename_i hp
  rw[e]
  rcases wA ((h.get? b).getD {cls:= .none,data:= .fields #[]}) o with q | ⟨q1,q2⟩
  ·exact .inl (by show some _=_;rw[q])
  ·exact .inr ⟨q1,hp,by show some _=_;rw[q2]⟩
 ·exact .inl e
theorem fZ{h:Heap}{b:Addr}{o:HO}(e:H b=some o)(n1:∀k,o≠ .dT k)(n2:∀k,o≠ .dK k):refA h P H b=some o:=by
 rcases qX (P:=P) (h:=h) e with q | ⟨⟨k,q⟩ | ⟨k,q⟩,_⟩
 ·exact q
 ·exact absurd q (n1 k)
 ·exact absurd q (n2 k)
theorem Inv.refA(I:Inv X pins σ H s):Inv X pins σ (L3.refA s.heap P H) s:=by
 have obj:∀b o,H b=some o→((∃k,o=HO.dT k)∨∃k,o= .dK k)→∃ob,s.heap.get? b=some ob:=fun b o e hu=>by
  have hk:=I.hok b o e
  rcases hu with⟨k,h1⟩ | ⟨k,h1⟩
  ·subst h1;obtain⟨_,_,_,_,ob,_,_,q,_⟩:=hk;exact⟨ob,q⟩
  ·subst h1;obtain⟨_,_,_,_,ob,_,_,q,_⟩:=hk;exact⟨ob,q⟩
 refine⟨I.ok,I.os,I.bare,⟨I.base.keep,I.base.slot,fun b q h1 h2 h3=>f6 (I.base.free b q h1 h2 h3),I.base.there,fun b xs q=>fZ (I.base.tups b xs q) (fun _ z=>nomatch z) (fun _ z=>nomatch z),
  fun b q1 v q=>fZ (I.base.frzs b q1 v q) (fun _ z=>nomatch z) (fun _ z=>nomatch z),fun b ps q=>?_⟩,I.loc,I.cell,f6 I.free,fun x c q=>f6 (I.freeC x c q),fun p hp=>?_,fun b v q=>?_,I.len⟩
 ·obtain⟨m,this⟩:=I.base.tbls b ps q
  exact⟨m,fZ this (fun _ z=>nomatch z) (fun _ z=>nomatch z)⟩
 ·obtain⟨h1,h2,h3⟩:=I.pin p hp
  exact⟨h1,f6 h2,h3⟩
 ·have st:∀{c:Addr}{v:HO},ObjOk X.prog X.w H s.heap c v→ObjOk X.prog X.w (L3.refA s.heap P H) s.heap c v:=fun {c v} k=>k.stay (fun _ _ _ q=>q)
   (fun c' q=>fZ q (fun _ z=>nomatch z) (fun _ z=>nomatch z)) fun c' xs q=>fZ q (fun _ z=>nomatch z) (fun _ z=>nomatch z)
  cases e:H b with
  |none=>rw[f6 e] at q;cases q
  |some o=>
   rcases qX (P:=P) (h:=s.heap) e with z | ⟨hu,hp,z⟩
   ·rw[z] at q;cases q;exact st (I.hok b _ e)
   ·rw[z] at q
    cases q
    obtain⟨ob,KR⟩:=obj b o e hu
    rw[KR]
    exact⟨KR,st (I.hok b o e)⟩
def unA(P:Addr→Prop)[DecidablePred P](H:Hp):Hp:=fun b=>if P b then(match H b with | some (.frz _ u)=>some u | x=>x) else H b
theorem Inv.unA(I:Inv X pins σ H s)(hP:∀b,P b→∀o u,X.H₀ b≠some (.frz o u))(hQ:∀b,P b→∀o u,H b=some (.frz o u)→(∃k,u= .dT k)∨∃k,u= .dK k):Inv X pins σ (L3.unA P H) s:=by
 have non:∀b,H b=none→L3.unA P H b=none:=fun b e=>by unfold L3.unA;rw[e];split<;>rfl
 have keep:∀b o,H b=some o→(∀q u,o≠ .frz q u)→L3.unA P H b=some o:=fun b o e n=>by
  unfold L3.unA;split
  ·rw[e];cases o<;>first | rfl | exact absurd rfl (n _ _)
  ·exact e
 refine⟨I.ok,I.os,I.bare,⟨I.base.keep,I.base.slot,fun b q h1 h2 h3=>non b (I.base.free b q h1 h2 h3),I.base.there,fun b xs q=>keep b _ (I.base.tups b xs q) (fun _ _ z=>nomatch z),
  fun b q1 v q=>?_,fun b ps q=>?_⟩,I.loc,I.cell,non _ I.free,fun x c q=>non _ (I.freeC x c q),fun p hp=>?_,fun b v q=>?_,I.len⟩
 ·have:=I.base.frzs b q1 v q
  unfold L3.unA
  rw[if_neg (fun hp=>hP b hp q1 v q)]
  exact this
 ·obtain⟨m,this⟩:=I.base.tbls b ps q
  exact⟨m,keep b _ this (fun _ _ z=>nomatch z)⟩
 ·obtain⟨h1,h2,h3⟩:=I.pin p hp
  exact⟨h1,non _ h2,h3⟩
 ·have st:∀{c:Addr}{v:HO},ObjOk X.prog X.w H s.heap c v→ObjOk X.prog X.w (L3.unA P H) s.heap c v:=fun {c v} k=>k.stay (fun _ _ _ q=>q)
   (fun c' q=>keep c' _ q (fun _ _ z=>nomatch z)) fun c' xs q=>keep c' _ q (fun _ _ z=>nomatch z)
  cases e:H b with
  |none=>rw[non b e] at q;cases q
  |some o=>
   have ko:=I.hok b o e
   by_cases hf:∃ob u,o= .frz ob u
   ·obtain⟨ob,u,rfl⟩:=hf
    unfold L3.unA at q
    split at q
    ·rw[e] at q
     cases q
     obtain⟨_,k2⟩:=ko
     exact st k2
    ·rw[e] at q;cases q;exact st ko
   ·rw[keep b o e (fun q u z=>hf ⟨q,u,z⟩)] at q
    cases q
    exact st ko
end
mutual
def GO:D→Bool
 | .non=>true
 | .bl _=>true
 | .int _=>true
 | .str _=>true
 | .tup ds=>yo ds
 | .raw _=>false
 | .exc _=>false
 | .scr _=>false
 | .lst _=>false
 | .dct _ _=>false
 | .dci _ _=>false
def yo:List D→Bool
 |[]=>true
 |d::ds=>GO d&&yo ds
end
def OwnAt(σ:St)(ρ:a9)(b:Addr):Prop:=∃(i:Nat) (c:C),ρ[i]? =some (some (Sl.ow c))∧σ[i]? =some (some (V.ref b))
section
variable{K:W.Frag}{F H F' H':Hp}{σ:St}{ρ:a9}{h:Heap}{b:Addr}
theorem OwnAt.obj(S:StE K F H σ ρ)(p:OwnAt σ ρ b):F b=none∧∃o,H b=some o∧((∃x,o= .lst x)∨(∃x,o= .dT x)∨∃x,o= .dK x):=by
 obtain⟨i,c,h1,h2⟩:=p
 obtain⟨v,h3,a,o,rfl,h4,h5,h6⟩:=S.den i _ h1
 rw[h3] at h2
 cases h2
 refine⟨h5,o,h4,?_⟩
 cases c with
 |lst ds=>obtain⟨vs,rfl,_⟩:=h6;exact .inl ⟨_,rfl⟩
 |dct ks ds=>obtain⟨vs,rfl,_⟩:=h6;exact .inr (.inl ⟨_,rfl⟩)
 |dci ks ds=>obtain⟨vs,rfl,_⟩:=h6;exact .inr (.inr ⟨_,rfl⟩)
open Classical in
noncomputable def fA(σ:St)(ρ:a9)(H1 F:Hp):Hp:=fun b=>if OwnAt σ ρ b then H1 b else F b
open Classical in
theorem yn(S:StE K F H σ ρ){H1:Hp}:Same F (fA σ ρ H1 F):=fun b u e=>by
 unfold fA
 rw[if_neg (fun p=>by rw[(OwnAt.obj S p).1] at e;cases e)]
 exact e
open Classical in
theorem Hz(S:StE K F H σ ρ):StE K (fA σ ρ (refA h (OwnAt σ ρ) H) F) (refA h (OwnAt σ ρ) H) σ (GQ ρ):=by
 refine⟨fun b u e=>?_,fun j sl e=>?_⟩
 ·unfold fA at e
  split at e
  ·exact e
  ·rename_i hp
   unfold refA
   rw[if_neg hp]
   exact S.fh b u e
 ·unfold GQ at e
  rw[List.getElem?_map] at e
  cases q:ρ[j]? with
  |none=>rw[q] at e;cases e
  |some x=>
   rw[q] at e
   cases x with
   |none=>cases e
   |some y=>
    cases y with
    |fz d=>
     cases e
     obtain⟨v,h1,h2⟩:=S.den j _ q
     exact⟨v,h1,Den.mono (yn S) h2⟩
    |ow c=>
     cases e
     obtain⟨v,h1,a,o,rfl,h4,h5,h6⟩:=S.den j _ q
     refine⟨_,h1,DenC.den (ob:=(h.get? a).getD {cls:= .none,data:= .fields #[]}) h6 (yn S) ?_⟩
     have hp:OwnAt σ ρ a:=⟨j,c,q,h1⟩
     unfold fA refA
     rw[if_pos hp,if_pos hp,h4]
     rfl
open Classical in
theorem B3(S:StE K F H σ ρ)(E:Ext (fA σ ρ (refA h (OwnAt σ ρ) H) F) (refA h (OwnAt σ ρ) H) F' H'):
 Ext F H (fun b=>if OwnAt σ ρ b then none else F' b) (unA (OwnAt σ ρ) H')∧∀b,OwnAt σ ρ b→∀o u,H' b=some (.frz o u)→(∃k,u= .dT k)∨∃k,u= .dK k:=by
 have OM:∀b,OwnAt σ ρ b→∃o,H b=some o∧H' b=some (gZ ((h.get? b).getD {cls:= .none,data:= .fields #[]}) o)∧((∃x,o= .lst x)∨(∃x,o= .dT x)∨∃x,o= .dK x):=fun b hp=>by
  obtain⟨_,o,h1,h2⟩:=OwnAt.obj S hp
  refine⟨o,h1,E.hh b _ ?_,h2⟩
  unfold refA
  rw[if_pos hp,h1]
  rfl
 refine⟨⟨fun b o e=>?_,fun b u e=>?_,fun b u e=>?_,fun b hb=>?_⟩,fun b hp o u e=>?_⟩
 ·unfold unA
  by_cases hp:OwnAt σ ρ b
  ·obtain⟨o',h1,h2,h3⟩:=OM b hp
   rw[e] at h1
   cases h1
   rw[if_pos hp,h2]
   rcases h3 with⟨x,rfl⟩ | ⟨x,rfl⟩ | ⟨x,rfl⟩<;>rfl
  ·rw[if_neg hp]
   refine E.hh b o ?_
   unfold refA
   rw[if_neg hp]
   exact e
 ·have hp:¬OwnAt σ ρ b:=fun p=>by rw[(OwnAt.obj S p).1] at e;cases e
  show (if OwnAt σ ρ b then none else F' b)=_
  rw[if_neg hp]
  refine E.ff b u ?_
  unfold fA
  rw[if_neg hp]
  exact e
 ·have e:(if OwnAt σ ρ b then none else F' b)=some u:=e
  split at e
  ·cases e
  ·rename_i hp
   unfold unA
   rw[if_neg hp]
   exact E.fh b u e
 ·show (if OwnAt σ ρ b then none else F' b)=F b∨_
  by_cases hp:OwnAt σ ρ b
  ·rw[if_pos hp]
   exact .inl (OwnAt.obj S hp).1.symm
  ·rw[if_neg hp]
   have e1:refA h (OwnAt σ ρ) H b=H b:=by unfold refA;rw[if_neg hp]
   have e2:fA σ ρ (refA h (OwnAt σ ρ) H) F b=F b:=by unfold fA;rw[if_neg hp]
   rcases E.new b (by rw[e1];exact hb) with q | q
   ·exact .inl (q.trans e2)
   ·rw[e1] at q;exact .inr q
 ·obtain⟨o',h1,h2,h3⟩:=OM b hp
  rw[e] at h2
  rcases h3 with⟨x,rfl⟩ | ⟨x,rfl⟩ | ⟨x,rfl⟩
  ·cases h2
  ·cases h2;exact .inl ⟨_,rfl⟩
  ·cases h2;exact .inr ⟨_,rfl⟩
open Classical in
mutual
theorem B0(S:StE K F H σ ρ)(E:Ext (fA σ ρ (refA h (OwnAt σ ρ) H) F) (refA h (OwnAt σ ρ) H) F' H'):∀{d:D}{v:V},GO d=true→Den K F' d v→Den K (fun b=>if OwnAt σ ρ b then none else F' b) d v
 | .non,_,_,q=>q
 | .bl _,_,_,q=>q
 | .int _,_,_,q=>q
 | .str _,_,_,q=>q
 | .tup ds,_,f,⟨a,vs,h1,h2,h3,h4⟩=>by
   refine⟨a,vs,h1,?_,qf S E ?_ h3,h4⟩
   ·show (if OwnAt σ ρ a then none else F' a)=_
    rw[if_neg,h2]
    intro hp
    obtain⟨_,o,k1,k2⟩:=OwnAt.obj S hp
    have k3:fA σ ρ (refA h (OwnAt σ ρ) H) F a=some (gZ ((h.get? a).getD {cls:= .none,data:= .fields #[]}) o):=by
     unfold fA refA
     rw[if_pos hp,if_pos hp,k1]
     rfl
    have k4:=E.ff a _ k3
    rw[h2] at k4
    rcases k2 with⟨x,rfl⟩ | ⟨x,rfl⟩ | ⟨x,rfl⟩<;>cases k4
   ·exact f
 | .raw _,_,f,_=>by cases f
 | .exc _,_,f,_=>by cases f
 | .scr _,_,f,_=>by cases f
 | .lst _,_,f,_=>by cases f
 | .dct _ _,_,f,_=>by cases f
 | .dci _ _,_,f,_=>by cases f
theorem qf(S:StE K F H σ ρ)(E:Ext (fA σ ρ (refA h (OwnAt σ ρ) H) F) (refA h (OwnAt σ ρ) H) F' H'):∀{ds:List D}{vs:List V},yo ds=true→DenL K F' ds vs→DenL K (fun b=>if OwnAt σ ρ b then none else F' b) ds vs
 |[],_,_,q=>q
 |d::ds,_,f,⟨v,r,h1,h2,h3⟩=>by
  unfold yo at f
  rw[Bool.and_eq_true] at f
  exact⟨v,r,h1,B0 S E f.1 h2,qf S E f.2 h3⟩
end
end
section
variable{X:Cx}{Xw:Nat→Hp→Prop}{e:Expr}{δ:DE}{τ:DT}
theorem Ay{pins:List (Addr×Obj)}{s:Shared}{F H:Hp}{σ:St}{ρ:a9}(I:Inv X pins σ H s)(S:StE X.K F H σ ρ)(b:Addr)(p:OwnAt σ ρ b)(o:Obj)(u:HO):X.H₀ b≠some (.frz o u):=fun z=>by
 obtain⟨_,o',k1,k2⟩:=OwnAt.obj S p
 have:=I.base.frzs b o u z
 rw[k1] at this
 rcases k2 with⟨x,rfl⟩ | ⟨x,rfl⟩ | ⟨x,rfl⟩<;>cases this
theorem wY{α:Type}(m:M α):noex m=M.stuck∨∃a,m=M.ret a∧noex m=M.ret a:=by
 rcases m.cs with h | ⟨n,h⟩ | ⟨a,h⟩
 ·subst h;exact .inl rfl
 ·subst h;exact .inl rfl
 ·subst h;exact .inr ⟨a,rfl,rfl⟩
theorem Dk(h:rl X Xw e τ):rl X Xw e (fun ρ=>noex (τ (GQ ρ))):=fun pins s σ H Q I ⟨F,ρ,S,w⟩=>by
 classical
 rcases wY (τ (GQ ρ)) with q | ⟨b,q,q2⟩
 ·have w:WPB Xw F H (noex (τ (GQ ρ))) Q:=w
  rw[q] at w
  exact w.elim
 ·have w:WPB Xw F H (noex (τ (GQ ρ))) Q:=w
  rw[q2] at w
  refine b5 (h pins s σ _ (fun b' H'=>Q b' (unA (OwnAt σ ρ) H')∧∀c,OwnAt σ ρ c→∀o u,H' c=some (.frz o u)→(∃k,u= .dT k)∨∃k,u= .dK k) (Inv.refA (P:=OwnAt σ ρ) I) ⟨_,_,Hz (h:=s.heap) S,?_⟩) fun b' s' ⟨H',I',q1,q3⟩=>⟨_,Inv.unA I' (Ay I S) q3,q1⟩
  rw[q]
  intro H' F' E
  obtain⟨E1,q3⟩:=B3 S E
  exact⟨w _ _ E1,q3⟩
end
abbrev DF:=a9→M C
def WPF(K:W.Frag)(Xw:Nat→Hp→Prop)(F H:Hp)(m:M C)(Q:VK):Prop:=
 match m with
 |none=>False
 |some (.ok c)=>∀a o H' F',Ext F H F' H'→H' a=some o→F' a=none→H a=none→DenC K F' c o→Q (.ref a) H'
 |some (.ex n)=>∀F' H',Ext F H F' H'→Xw n H'
def Rz(K:W.Frag)(Xw:Nat→Hp→Prop)(δ:DF):TE:=fun σ H Q=>∃F ρ,StE K F H σ ρ∧WPF K Xw F H (δ ρ) Q
def L6(X:Cx)(Xw:Nat→Hp→Prop)(e:Expr)(δ:DF):Prop:=PE X e (Rz X.K Xw δ)
def DW(i:Nat)(δ:DF):DS:=fun ρ=>δ ρ>>=fun c=>M.ret (.nx (ρ.set i (some (.ow c))))
theorem StOk.setFresh{K:W.Frag}{F₀ H₀ F H F' H':Hp}{σ:St}{ρ:a9}(s:StOk K F₀ H₀ F H σ ρ){i:Nat}{a:Addr}{o:HO}{c₀:C}(E:Ext F H F' H')(ho:H' a=some o)(nF:F' a=none)(n:H a=none)(h:DenC K F' c₀ o):
 StOk K F₀ H₀ F' H' (σ.set i (some (.ref a))) (ρ.set i (some (.ow c₀))):=by
 have hle:=s.len
 have get:∀(j:Nat) (sl:Sl),(ρ.set i (some (.ow c₀)))[j]? =some (some sl)→(j=i∧i<ρ.length∧sl= .ow c₀)∨(j≠i∧ρ[j]? =some (some sl)):=fun j sl e=>by
  by_cases hj:j=i
  ·subst hj
   have hi:j<ρ.length:=by
    have:=(List.getElem?_eq_some_iff.mp e).1
    simpa using this
   rw[List.getElem?_set_self hi] at e
   cases e
   exact .inl ⟨rfl,hi,rfl⟩
  ·rw[List.getElem?_set_ne (Ne.symm hj)] at e
   exact .inr ⟨hj,e⟩
 have old:∀(j:Nat) (c:C) (b:Addr),ρ[j]? =some (some (.ow c))→σ[j]? =some (some (.ref b))→b≠a:=fun j c b e e' z=>by
  obtain⟨u,h1,b',o,h2,h3,_⟩:=s.st.den j _ e
  rw[h1] at e'
  cases e'
  cases h2
  rw[z,n] at h3
  cases h3
 refine⟨s.ext.trans E,⟨E.fh,fun j sl e=>?_⟩,by simp[hle],fun j c b e e'=>?_,fun j k c c' b e1 e2 e3 e4=>?_⟩
 ·rcases get j sl e with⟨rfl,hi,rfl⟩ | ⟨hj,e⟩
  ·exact⟨.ref a,by rw[List.getElem?_set_self (by omega)],a,_,rfl,ho,nF,h⟩
  ·obtain⟨u,h1,h2⟩:=s.st.den j sl e
   exact⟨u,by rw[List.getElem?_set_ne (Ne.symm hj)];exact h1,h2.ext E⟩
 ·rcases get j _ e with⟨rfl,hi,_⟩ | ⟨hj,e⟩
  ·rw[List.getElem?_set_self (by omega)] at e'
   cases e'
   exact Same.free s.ext.hh n
  ·rw[List.getElem?_set_ne (Ne.symm hj)] at e'
   exact s.own j c b e e'
 ·rcases get j _ e1 with⟨rfl,hi,_⟩ | ⟨hj,e1⟩
  ·rw[List.getElem?_set_self (by omega)] at e3
   cases e3
   rcases get k _ e2 with⟨rfl,_,_⟩ | ⟨hk,e2⟩
   ·rfl
   ·rw[List.getElem?_set_ne (Ne.symm hk)] at e4
    exact absurd rfl (old k c' a e2 e4)
  ·rcases get k _ e2 with⟨Nw,hi,_⟩ | ⟨hk,e2⟩
   ·rw[Nw,List.getElem?_set_self (by omega)] at e4
    cases e4
    rw[List.getElem?_set_ne (Ne.symm hj)] at e3
    exact absurd rfl (old j c a (by assumption) e3)
   ·rw[List.getElem?_set_ne (Ne.symm hj)] at e3
    rw[List.getElem?_set_ne (Ne.symm hk)] at e4
    exact s.sep j k c c' b e1 e2 e3 e4
theorem WPF.mono{K:W.Frag}{Xw:Nat→Hp→Prop}{F H:Hp}{m:M C}{Q Q':VK}(h:WPF K Xw F H m Q)(k:∀v H',Q v H'→Q' v H'):WPF K Xw F H m Q':=by
 match m,h with
 |none,h=>exact h
 |some (.ok d),h=>exact fun a o H' F' e h1 h2 h3 h4=>k _ _ (h a o H' F' e h1 h2 h3 h4)
 |some (.ex n),h=>exact h
theorem WPF.ext{K:W.Frag}{Xw:Nat→Hp→Prop}{F H F1 H1:Hp}{m:M C}{Q:VK}(e:Ext F H F1 H1)(h:WPF K Xw F H m Q):WPF K Xw F1 H1 m Q:=by
 match m,h with
 |none,h=>exact h
 |some (.ok d),h=>exact fun a o H' F' e' h1 h2 h3 h4=>h a o H' F' (e.trans e') h1 h2 (Same.free e.hh h3) h4
 |some (.ex n),h=>exact fun F2 H2 e2=>h F2 H2 (e.trans e2)
theorem WPF.bind{K:W.Frag}{Xw:Nat→Hp→Prop}{F H:Hp}{m:M D}{k:D→M C}{Q:VK}(h:WPF K Xw F H (m>>=k) Q):WP K Xw F H m fun v H1=>∃F1 d,Ext F H F1 H1∧Den K F1 d v∧WPF K Xw F1 H1 (k d) Q:=by
 match m,h with
 |none,h=>exact h
 |some (.ok d),h=>exact fun v H2 F2 e2 q=>⟨F2,d,e2,q,WPF.ext e2 (show WPF K Xw F H (k d) Q from h)⟩
 |some (.ex n),h=>exact h
theorem WPF.bindL{K:W.Frag}{Xw:Nat→Hp→Prop}{F H:Hp}{m:M (List D)}{k:List D→M C}{Q:VK}(h:WPF K Xw F H (m>>=k) Q):WPL K Xw F H m fun v H1=>∃F1 d,Ext F H F1 H1∧DenL K F1 d v∧WPF K Xw F1 H1 (k d) Q:=by
 match m,h with
 |none,h=>exact h
 |some (.ok d),h=>exact fun v H2 F2 e2 q=>⟨F2,d,e2,q,WPF.ext e2 (show WPF K Xw F H (k d) Q from h)⟩
 |some (.ex n),h=>exact h
section
variable{X:Cx}{Xw:Nat→Hp→Prop}{e k v a b:Expr}{es:List Expr}{δ δ':DF}{δk δv δa δb:DE}{δs:DA}{pos pos' p:Pos}{x:Str}{i:Nat}
theorem Du(hN:X.N.Nodup)(hi:X.N[i]? =some x)(hx:Loc X.env.scope x)(he:L6 X Xw e δ)(hf:X.fn x=true∨X.env.scope.names.lookup x=some .local:=by first | exact .inl rfl | exact .inr rfl)
 (hs:swapsWithSole [.Name x pos'] e pos.line X.env=pure false:=by rfl):
 kR X Xw (.Assign [.Name x pos'] e pos) (DW i δ):=fun F₀ H₀=>PS.weak (sT he (bj hN hi hx hf) hs) fun D σ H ⟨F,ρ,s,w⟩=>by
 refine⟨F,ρ,s.st,?_⟩
 unfold DW at w
 match δ ρ,w with
 |none,w=>exact w
 |some (.ok c),w=>exact fun a o H' F' E h1 h2 h3 h4=>w _ F' H' (s.setFresh E h1 h2 h3 h4)
 |some (.ex n),w=>exact fun F' H' e'=>w F' H' (s.ext.trans e')
theorem Ext.fresh{F H:Hp}{p:Addr}{o:HO}(s:Same F H)(hp:H p=none):Ext F H F (upd H p o)∧F p=none:=⟨Ext.free s hp,Same.free s hp⟩
theorem Ke{pins:List (Addr×Obj)}{σ:St}{H H':Hp}{s:Shared}{a:Addr}{y v:V}{u r:Value}{A:Around}{E:Value→Shared→Prop}{Q:Unit→Shared→Prop}(hu:A.units+1<cLine)(I:Inv X pins σ H s)(g:DPut H a y v H')(ry:RelV y u)(rv:RelV v r)(h:∀s',Inv X pins σ H' s'→Q () s'):
 wpAny (model X.prog X.w) A (dictSet a u r) Q E s:=by
 rcases g with⟨ar,k,e,ey,l,eH⟩ | ⟨ar,k,b,e,ey,eb,l,eH⟩
 ·subst ey eH
  obtain⟨z,hd,vs,rel,dd⟩:=GH I.hok e
  have hz:vs.length≤sizeLine:=by rw[←rel.length];exact z
  have hl:(putK ar k v).length≤sizeLine:=by have:=dj ar k v;omega
  refine wpAny_dictSet_pairs (hsz:=hz) (qr ry) dd fun h' BP hs=>h _ ?_
  have he:∃q,h'.get? a=some q:=let ⟨q,_,_,hq,_⟩:=BP;⟨q,hq⟩
  exact jP I (by rw[e];exact True.intro) hs he (BS hl hd (rel.put k rv) BP)
 ·subst ey eH
  cases (show u=Value.ref b from ry)
  obtain⟨z,hd,xs,rel,dd⟩:=BU I.hok e
  have hz:xs.length≤sizeLine:=by rw[←Paired.length rel];exact z
  have hl:(putK ar k v).length≤sizeLine:=by have:=dj ar k v;omega
  refine wpAny_dictSet_heap (knd:=tupleKind (aY X.prog X.w)) (hsz:=hz) (by exact(show A.units<cLine by omega)) (lj I.hok eb) dd fun h' BP hs=>h _ ?_
  obtain⟨q,es,ep,hq,h2,h3,h4,_,h5⟩:=BP
  refine jP I (by rw[e];exact True.intro) hs ⟨q,hq⟩ ⟨hl,hd,_,(rel.put k eb rv).keeps fun c ys ec=>?_,q,es,ep,hq,h2,h3,h4,h5⟩
  rw[au (CN ec e (fun z=>nomatch z))]
  exact ec
end
section
variable{X:Cx}{Xw:Nat→Hp→Prop}{e k v a b:Expr}{es:List Expr}{δk δv δa δb:DE}{δs:DA}{pos pos' p:Pos}{x:Str}{i:Nat}
theorem BR{o0:HO}{put:Hp→Addr→V→V→Hp→Prop}(hu:X.A.units+1<cLine)(h0:∀(H:Hp) (h:Heap),sysModules<h.objs.size→ObjOk X.prog X.w H (h.push {cls:= .type "dict",data:= .dict #[]}) h.objs.size o0){tk tv:TE}(hk:PE X k tk)(hv:PE X v tv):
 PE X (.Dict [some k] [v] pos) (fun σ H Q=>∀p,H p=none→tk σ (upd H p o0) fun y H1=>tv σ H1 fun z H2=>∃H3,DPut H2 p y z H3∧Q (.ref p) H3):=by
 intro pins s σ H Q I q
 have hn:=I.hok.fresh (Nat.le_refl s.heap.objs.size)
 have I1:=I.laid (a:=s.heap.objs.size) (o:=o0) (h':=s.heap.push {cls:= .type "dict",data:= .dict #[]}) (t':=s.toks) (fun _ _ q=>Heap.get?_push_of_some _ q) (Nat.le_refl _) (h0 _ s.heap I.big)
 refine wpAny_Dict_any rfl rfl (by simp) (by simp) (b5 (Ds hk hv FW pins _ σ _ (fun ps H2=>∃y z H3,ps=[(y,z)]∧DPut H2 s.heap.objs.size y z H3∧Q (.ref s.heap.objs.size) H3) I1 ?_) fun ws s2 ⟨ps,H2,I2,rel,y,z,H3,ep,g,q2⟩=>?_)
 ·refine ?_
  have:=q _ hn
  show tk σ _ fun y H1=>tv σ H1 fun z H2=>∃y' z' H3,[(y,z)]=[(y',z')]∧DPut H2 s.heap.objs.size y' z' H3∧Q (.ref s.heap.objs.size) H3
  have e:(fun (y:V) (H1:Hp)=>tv σ H1 fun z H2=>∃y' z' H3,[(y,z)]=[(y',z')]∧DPut H2 s.heap.objs.size y' z' H3∧Q (.ref s.heap.objs.size) H3)=(fun y H1=>tv σ H1 fun z H2=>∃H3,DPut H2 s.heap.objs.size y z H3∧Q (.ref s.heap.objs.size) H3):=by
   funext y H1
   congr 1
   funext z H2
   refine propext ⟨fun ⟨y',z',H3,ee,r⟩=>?_,fun⟨H3,r⟩=>⟨y,z,H3,rfl,r⟩⟩
   cases ee
   exact⟨H3,r⟩
  rw[e]
  exact this
 ·subst ep
  cases rel with
  | @cons a b as bs h t=>
    cases t
    obtain⟨r1,r2⟩:=h
    unfold storeAll
    rw[List.forIn_cons]
    refine wpAny_bind (wpAny_bind (Ke hu I2 g r1 r2 fun s3 I3=>?_))
    refine wpAny_pure ?_
    show wpAny _ _ (forIn ([]:List (Value×Value)) PUnit.unit _) _ _ _
    rw[List.forIn_nil]
    exact wpAny_pure ⟨V.ref s.heap.objs.size,_,I3,rfl,q2⟩
def qb(k v:D):M C:=match eu k with
 |some kk=>M.ret (.dct [kk] [v])
 |none=>M.stuck
theorem AE(hu:X.A.units+64<cLine)(hk:PD X Xw k δk)(hv:PD X Xw v δv):L6 X Xw (.Dict [some k] [v] pos) (fun ρ=>δk ρ>>=fun x=>δv ρ>>=fun y=>qb x y):=
 PE.weak (BR (o0:= .dT []) (put:=DPut) (by omega) (fun H h hb=>ud h hb) hk hv) fun σ H Q ⟨F,ρ,s,w⟩ q hq=>by
  have e0:=Ext.free (o:= .dT []) s.fh hq
  refine⟨F,ρ,s.ext e0,?_⟩
  have w:WPF X.K Xw F H (δk ρ>>=fun x=>δv ρ>>=fun y=>qb x y) Q:=w
  match qj:δk ρ,w with
  |none,w=>exact w
  |some (.ex n),w=>exact fun F' H' e'=>w F' H' (e0.trans e')
  |some (.ok kd),w=>
   intro y H1 F1 e1 q1
   refine⟨F1,ρ,(s.ext e0).ext e1,?_⟩
   have w:WPF X.K Xw F H (δv ρ>>=fun y=>qb kd y) Q:=w
   match NO:δv ρ,w with
   |none,w=>exact w
   |some (.ex n),w=>exact fun F' H' e'=>w F' H' (e0.trans (e1.trans e'))
   |some (.ok vd),w=>
    intro z H2 F2 e2 q2
    have w3:WPF X.K Xw F H (qb kd vd) Q:=w
    clear w
    unfold qb at w3
    cases E3:eu kd with
    |none=>rw[E3] at w3;exact w3.elim
    |some kk=>
     rw[E3] at w3
     have E:=e1.trans e2
     have NG:H2 q=some (.dT []):=E.hh _ _ aF
     have OZ:F2 q=none:=by
      have:=E.old (a:=q) (o:= .dT []) aF (fun _ z=>nomatch z)
      rw[this]
      exact Same.free s.fh hq
     unfold eu at E3
     split at E3
     ·rename_i es
      obtain⟨b,ws,rfl,k2,k3,_⟩:=Den.mono e2.ff q1
      have e5:=g_ E3 k3
      subst e5
      refine⟨_,DPut.t (k:=kk) NG (e2.fh _ _ k2) (by rw[sizeLine_eq];decide),?_⟩
      refine w3 q (.dT (putK [] kk z)) _ F2 ⟨fun c u hc=>?_,(e0.trans E).ff,fun c u hc=>?_,(e0.trans E).new⟩ aF OZ hq ⟨[z],rfl, .cons q2 .nil,rfl,show 1≤lim by decide⟩
      ·rw[au (fun zz=>by rw[zz,hq] at hc;cases hc)]
       exact(e0.trans E).hh c u hc
      ·rw[au (fun zz=>by rw[zz,OZ] at hc;cases hc)]
       exact e2.fh c u hc
     ·cases E3
theorem yd{K:W.Frag}{F H:Hp}{d k:D}{x y:V}{o:Option D}(s:Same F H)(hd:Den K F d x)(hk:Den K F k y)(e:Bc d k=some o):
 ∃a ov,x= .ref a∧pC H a y ov∧ov.isSome=o.isSome∧∀d',o=some d'→∃v,ov=some v∧Den K F d' v:=by
 obtain⟨a,ov,h1,h2,h3,h4⟩:=ye (σ:=[some x]) (ρ:=[some (.fz d)]) (i:=0) (H:=H) ⟨s,fun i sl q=>by
  match i,q with
  |0,q=>cases q;exact⟨x,rfl,hd⟩
  |i+1,q=>simp at q⟩ rfl hk e
 cases h1
 exact⟨a,ov,rfl,h2,h3,h4⟩
def pK(neg:Bool)(k d:D):M D:=match Bc d k with
 |some o=>M.ret (.bl (if neg then !o.isSome else o.isSome))
 |none=>M.stuck
def LH(neg:Bool):R2:=fun y x H Q=>∃a o,x= .ref a∧pC H a y o∧Q (.bl (if neg then !o.isSome else o.isSome)) H
theorem Av(hu:X.A.units+64<cLine):OpR X (compareOp .NotIn) (LH true):=fun pins s σ H y x v u Q I ry rx ⟨a,o,ex,g,q⟩=>by
 subst ex
 obtain rfl:u=Value.ref a:=rx
 exact EN (by omega) I g ry fun s' I'=>⟨.bl (!o.isSome),_,I',rfl,q⟩
theorem Fz{K:W.Frag}{neg:Bool}:vZ K (LH neg) (pK neg):=fun Xw F H y x dk dd Q s hk hd w=>by
 unfold pK at w
 cases he:Bc dd dk with
 |none=>rw[he] at w;exact w.elim
 |some o=>
  rw[he] at w
  obtain⟨a,ov,h1,h2,h3,_⟩:=yd s hd hk he
  refine⟨a,ov,h1,h2,?_⟩
  rw[h3]
  exact WP.now w s rfl
theorem qT(hu:X.A.units+64<cLine)(ha:PD X Xw a δa)(hb:PD X Xw b δb)(hm:behindInMarks .NotIn b=false:=by rfl):rl X Xw (.Compare a [.NotIn] [b] pos) (dn (d2 (pK true) δa δb)):=i6 (Av hu) Fz ha hb hm
def k7(d k:D):M D:=match Bc d k with
 |some (some v)=>M.ret v
 |_=>M.stuck
theorem De(hu:X.A.units+64<cLine)(ha:PD X Xw a δa)(hb:PD X Xw b δb)(hs:Hi b:=by intro _ _;rfl):PD X Xw (.Subscript a b pos) (d2 k7 δa δb):=
 PE.weak (FT (by omega) ha hb hs) fun σ H Q ⟨F,ρ,s,w⟩=>by
  refine⟨F,ρ,s,WP.mono (WP.bind w) fun x H1 ⟨F1,d,e1,q1,w1⟩=>?_⟩
  refine⟨F1,ρ,s.ext e1,WP.mono (WP.bind w1) fun y H2 ⟨F2,k,e2,q2,w2⟩=>?_⟩
  unfold k7 at w2
  cases he:Bc d k with
  |none=>rw[he] at w2;exact w2.elim
  |some o=>
   cases o with
   |none=>rw[he] at w2;exact w2.elim
   |some d'=>
    rw[he] at w2
    obtain⟨a,ov,h1,h2,h3,h4⟩:=yd e2.fh (Den.mono e2.ff q1) q2 he
    obtain⟨v,rfl,hd⟩:=h4 d' rfl
    exact⟨a,v,h1,h2,WP.now w2 e2.fh hd⟩
end
section
variable{X:Cx}{pins:List (Addr×Obj)}{σ:St}{H:Hp}{s:Shared}{h':Heap}
theorem Inv.turnedLaid{t':Nat}{ch:List Addr}{a:Addr}{o:HO}(I:Inv X pins σ H s)(k:∀b q,b∉ch→s.heap.get? b=some q→h'.get? b=some q)(hf:∀b∈ch,pD X pins H b)(hp:s.heap.objs.size≤a)(new:ObjOk X.prog X.w (upd H a o) h' a o):
 Inv X pins σ (upd H a o) {s with heap:=h',toks:=t'}:=by
 have hn:=I.hok.fresh hp
 have G7:∀b u,H b=some u→b∉ch:=fun b u e z=>by rw[(hf b z).1] at e;cases e
 refine I.step (g':=s.gens) (d':=s.drawn) (ch:=ch) (fun b hb=>?_) (fun b q _ _ hc e _=>k b q hc e) (fun b q _ _ hc e _=>⟨q.slots,k b q hc e⟩) (fun b q hc e n=>?_)
  (fun b q hc e=>⟨q,k b q hc e⟩) (fun b xs e=>?_) (fun b q u e=>?_) (fun b ps e=>⟨#[],?_⟩) (fun m hm=>?_) (fun b u e=>?_) I.bare
 ·obtain⟨f0,f1,f2,f3,f4,f5⟩:=hf b hb
  exact⟨f3,f1,f4,f5⟩
 ·rw[au (fun z=>by rw[z] at e;exact absurd (Heap.lt_size e) (Nat.not_lt.mpr hp))];exact n
 ·rw[au (bc e hn)];exact e
 ·rw[au (bc e hn)];exact e
 ·rw[au (bc e hn),e];simp
 ·obtain⟨q,es,ep,ho,r⟩:=hm
  exact⟨q,es,ep,k _ q (fun z=>(hf _ z).2.1 rfl) ho,r⟩
 ·by_cases hb:b=a
  ·subst hb;rw[aF] at e;cases e;exact new
  ·rw[au hb] at e
   refine(I.hok b u e).stay (fun c v hc q=>k c v ?_ q) (fun c q=>by rw[au (bc q hn)];exact q) fun c xs q=>by rw[au (bc q hn)];exact q
   rcases hc with z | z
   ·rw[z];exact G7 b u e
   ·exact G7 c _ z
theorem Inv.turnedL{t':Nat}{ch:List Addr}(I:Inv X pins σ H s)(k:∀b q,b∉ch→s.heap.get? b=some q→h'.get? b=some q)(hf:∀b∈ch,pD X pins H b):Inv X pins σ H {s with heap:=h',toks:=t'}:=by
 have G7:∀b u,H b=some u→b∉ch:=fun b u e z=>by rw[(hf b z).1] at e;cases e
 refine I.step (g':=s.gens) (d':=s.drawn) (ch:=ch) (fun b hb=>?_) (fun b q _ _ hc e _=>k b q hc e) (fun b q _ _ hc e _=>⟨q.slots,k b q hc e⟩) (fun b q hc e n=>n)
  (fun b q hc e=>⟨q,k b q hc e⟩) (fun b xs e=>e) (fun b q u e=>e) (fun b ps e=>⟨#[],by rw[e];simp⟩) (fun m hm=>?_) (fun b u e=>?_) I.bare
 ·obtain⟨f0,f1,f2,f3,f4,f5⟩:=hf b hb
  exact⟨f3,f1,f4,f5⟩
 ·obtain⟨q,es,ep,ho,r⟩:=hm
  exact⟨q,es,ep,k _ q (fun z=>(hf _ z).2.1 rfl) ho,r⟩
 ·refine(I.hok b u e).stay (fun c v hc q=>k c v ?_ q) (fun c q=>q) fun c xs q=>q
  rcases hc with z | z
  ·rw[z];exact G7 b u e
  ·exact G7 c _ z
end
def OG(K:W.Frag)(a:Addr):It:=
 ⟨fun i H=>∃xs x,SqL K H a xs∧xs[i]? =some x,fun i H x H'=>∃p,x= .ref p∧H p=none∧∃v,(∀xs,SqL K H a xs→xs[i]? =some v)∧H'=upd H p (.tup [.int (i:Int),v]),fun i H=>∃xs,SqL K H a xs∧xs.length≤i⟩
theorem AW{P:Program}{w:World}{K:W.Frag}{es:List Expr}{x1}{tp:Pos}(l e it:Addr)(Pa:e≠it):
 Turn P w K (.Tuple es x1 tp) (OG K l) [e,it] e (fun i h=>∃old,IsEnum h e it (i:Int) old∧h.IsListIter it l i) where
 mem:=by simp
 obj:=fun i h ⟨old,D_,xN⟩ b hb=>by
  rcases List.mem_cons.mp hb with z | z
  ·subst z;exact⟨_,D_,fun v z=>nomatch z⟩
  ·have z:b=it:=by simpa using z
   subst z
   obtain⟨o,e1,c,d⟩:=xN
   exact⟨o,e1,fun v z=>by rw[d] at z;cases z⟩
 keep:=fun i h h' ⟨old,D_,xN⟩ k=>⟨old,k e (by simp) _ D_,xN.at fun o q=>k it (by simp) o q⟩
 item:=by
  intro X hP hw hK hc i pins s σ H E I hf st hg
  subst hP hw hK
  obtain⟨old,D_,xN⟩:=st
  obtain⟨xs,x,hq,hx⟩:=hg
  obtain⟨aD,rv,p,hz⟩:=I.list hq
  obtain⟨u,hu,ru⟩:=rv.get hx
  refine wpAny_pyNext_enum_item D_ xN p.isList (x:=u) (by simpa using hu) Pa fun h1 k1 k2 k3 k4 k5=>?_
  refine⟨_,rfl,wpAny_letOwnedTupleGo_enum k1 fun h2 m1 m2=>?_⟩
  have gR:s.heap.objs.size≠e:=Nat.ne_of_gt (Heap.lt_size D_)
  have OC:h2.get? s.heap.objs.size=some {cls:= .type "tuple",data:= .seq #[.int i s.toks,u]}:=(m2.2 _ gR).trans k3
  have keep:∀b q,b∉[e,it]→s.heap.get? b=some q→h2.get? b=some q:=fun b q hb e1=>by
   have JS:b≠e:=fun z=>hb (by simp[z])
   have wD:b≠it:=fun z=>hb (by simp[z])
   exact(m2.2 b JS).trans (k5 b q JS wD e1)
  have I2:Inv X pins σ (upd H s.heap.objs.size (.tup [.int (i:Int),x])) {s with heap:=h2,toks:=s.toks+1}:=by
   refine Inv.turnedLaid (s:=s) I keep hf (Nat.le_refl _) ⟨?_,[.int i s.toks,u], .cons ⟨_,rfl⟩ (.cons ru .nil),_,OC,rfl,_,rfl⟩
   rw[sizeLine_eq];show 2≤_;decide
  refine⟨.ref s.heap.objs.size,_,I2,rfl,⟨_,rfl,I.hok.fresh (Nat.le_refl _),x,fun ys hy=>by rw[I.list_inj hy hq];exact hx,rfl⟩,⟨u,?_,?_⟩,fun b hb=>?_⟩
  ·have:((i+1:Nat):Int)=(i:Int)+1:=by push_cast;rfl
   rw[this];exact m1
  ·exact k2.at fun o q=>(m2.2 it (Ne.symm Pa)).trans q
  ·rw[au (fun z=>by
    rcases List.mem_cons.mp hb with y | y
    ·exact absurd (Heap.lt_size D_) (by rw[←y,z];exact Nat.lt_irrefl _)
    ·have y:b=it:=by simpa using y
     obtain⟨o,q1,_⟩:=id xN
     exact absurd (Heap.lt_size q1) (by rw[←y,z];exact Nat.lt_irrefl _))]
   exact(hf b hb).1
 done:=by
  intro X hP hw hK hc i pins s σ H E I hf st hg
  subst hP hw hK
  obtain⟨old,D_,xN⟩:=st
  obtain⟨xs,hq,hx⟩:=hg
  obtain⟨aD,rv,p,hz⟩:=I.list hq
  have hl:=rv.length
  exact wpAny_pyNext_enum_end (I.ok.hd hc) D_ xN p.isList (by simp;omega) fun h' eb=>⟨rfl,Inv.turnedL (t':=s.toks) (ch:=[it]) I (fun b q hb e1=>eb b q (fun z=>hb (by simp[z])) e1) fun b hb=>hf b (List.mem_cons_of_mem _ hb)⟩
 self:=fun A i s Q E st h=>by
  obtain⟨old,D_,xN⟩:=st
  exact wpAny_pyIter_enum D_ h
theorem Cs{K:W.Frag}{F:Hp}{a:Addr}{vs:List V}{ds:List D}(h:SqL K F a vs)(hd:DenL K F ds vs):ItD K F (OG K a) (ds.mapIdx fun i d=> .tup [.int (i:Int),d]):=fun F' H' i s1 s2=>by
 have hs:=Same.seq s2 (Same.seq s1 h)
 refine⟨fun d e=>?_,fun hl=>⟨vs,hs,by rw[List.length_mapIdx,hd.len] at hl;exact hl⟩⟩
 rw[List.getElem?_mapIdx] at e
 cases q:ds[i]? with
 |none=>rw[q] at e;cases e
 |some d0=>
  rw[q] at e
  cases e
  obtain⟨v,e1,q1⟩:=hd.get q
  refine⟨⟨vs,v,hs,e1⟩,fun x H'' ⟨p,y1,y2,u,y3,y4⟩=>?_⟩
  subst y1 y4
  have:=y3 vs hs
  rw[e1] at this
  cases this
  have E:=Ext.lay (o:= .tup [.int (i:Int),v]) s2 y2
  exact⟨_,E,p,_,rfl,aF, .cons rfl (.cons (Den.mono E.ff (Den.mono s1 q1)) .nil),by show 2≤lim;decide⟩
section
variable{X:Cx}{Xw:Nat→Hp→Prop}{tg e:Expr}{es:List Expr}{δ δi:DE}{δs:DA}{pos p tp:Pos}{x1:Nat}
def qe:List D→M (List D)
 |[.lst ds]=>M.ret (ds.mapIdx fun i d=> .tup [.int (i:Int),d])
 |_=>M.stuck
theorem vf(hg:Gl X "enumerate")(hm:X.mg "enumerate"=none)(ha:kP X Xw [e] δs)(hs:starEach [e] X.env=[(false,eval e X.env)]:=by rfl):v7 X Xw (.Tuple es x1 tp) (.Call (.Name "enumerate" p) [e] [] pos) (fun ρ=>δs ρ>>=qe):=by
 intro pins s σ H R I ⟨F,ρ,S,w⟩
 refine Call_ (dZ I hg hm (show bootBuiltins "enumerate"=some (.type "enumerate") from rfl) (PyProof.Rows.callWith_type1 (b5 (ha pos pins s σ H (fun vs H1=>∃F1 ds,Ext F H F1 H1∧DenL X.K F1 ds vs∧WPI X.K Xw F1 H1 (qe ds) R) I ⟨F,ρ,S,WPI.bindL w⟩) fun us s1 ⟨vs,H1,I1,r1,F1,ds,e1,q1,w1⟩=>?_) hs rfl))
 unfold qe at w1
 split at w1
 ·rename_i ds
  obtain⟨v,rfl,h1⟩:=q1.one
  obtain⟨a,xs,rfl,h2,h3,h4⟩:=h1
  obtain⟨u,rfl,r2⟩:=r1.one
  cases (show u=_ from r2)
  obtain⟨aD,rv,pl,hz⟩:=I1.list (SqL.of (K:=X.K) (e1.fh _ _ h2))
  refine call_enumerate_list pl.isList fun h' k1 k2 k3 k4=>?_
  refine wpAny_pyIter_enum k1 ?_
  refine⟨s1.heap.objs.size+1,[s1.heap.objs.size+1,s1.heap.objs.size],_,_,H1,rfl,I1.kept (t':=s1.toks) fun b o e=>k4 b o e,AW a _ _ (Nat.ne_of_gt (Nat.lt_succ_self _)),⟨.none,k1,k2⟩,fun b hb=>?_,w1 _ _ _ (Ext.refl e1.fh) (Cs (SqL.of h2) h3)⟩
  have e:s1.heap.objs.size≤b:=by
   rcases List.mem_cons.mp hb with z | z
   ·rw[z];exact Nat.le_succ _
   ·have z:b=s1.heap.objs.size:=by simpa using z
    rw[z];exact Nat.le_refl _
  exact I1.fpOk e (I1.hok.fresh e)
 ·exact w1.elim
end
def Fi:Key→D
 | .inl i=> .int i
 | .inr x=> .str x
def Gy(H:Hp)(d:Addr)(od:Obj)(i:Nat)(x:V):Prop:=
 (∃ar k b,H d=some (.frz od (.dT ar))∧(ar.map (·.1))[i]? =some k∧x= .ref b∧H b=some (.tup (k.map kV)))∨
 ∃ar k,H d=some (.frz od (.dK ar))∧(ar.map (·.1))[i]? =some k∧x=kV k
def OF(d:Addr)(od:Obj):It:=
 ⟨fun i H=>(∃ar,H d=some (.frz od (.dT ar))∧i<ar.length)∨∃ar,H d=some (.frz od (.dK ar))∧i<ar.length,fun i H x H'=>H'=H∧Gy H d od i x,
  fun i H=>(∃ar,H d=some (.frz od (.dT ar))∧ar.length≤i)∨∃ar,H d=some (.frz od (.dK ar))∧ar.length≤i⟩
theorem mz{α β γ:Type}{R:α→β→Prop}{f:α→γ}{g:β→γ}(h:∀a b,R a b→f a=g b):∀{l:List α}{m:List β},Paired R l m→l.map f=m.map g
 |_,_, .nil=>rfl
 |_,_, .cons r t=>by rw[List.map_cons,List.map_cons,h _ _ r,mz h t]
theorem jF{α β:Type}{R:α→β→Prop}:∀{l:List α}{m:List β}{i:Nat}{a:α},Paired R l m→l[i]? =some a→∃b,m[i]? =some b∧R a b
 |_,_,i,_, .nil,e=>by simp at e
 |_,_,0,_, .cons r t,e=>by simp at e;subst e;exact⟨_,rfl,r⟩
 |_,_,i+1,_, .cons r t,e=>by
  obtain⟨b,e1,e2⟩:=jF (i:=i) t (by simpa using e)
  exact⟨b,by simpa using e1,e2⟩
theorem Az{prog:Program}{w:World}{κ:Type}[DecidableEq κ]{knd:KeyKind prog w κ}:∀{es:List DictEntry}{ar:List (κ×Value)}{i:Nat}{kv:κ×Value},Pairs knd es ar→ar[i]? =some kv→∃e,es[i]? =some e∧knd.is kv.1 e.key=true:=by
 intro es ar i kv h e
 induction h generalizing i with
 |nil=>simp at e
 | @cons en RW JO Rv h1 h2 h3 ih=>
   cases i with
   |zero=>simp at e;subst e;exact⟨en,rfl,h1⟩
   |succ i=>
    obtain⟨q,e1,e2⟩:=ih (i:=i) (by simpa using e)
    exact⟨q,by simpa using e1,e2⟩
theorem IB{k:Key}{u:Value}(h:nU k u=true):RelV (kV k) u:=by
 rcases bL h with⟨i,t,rfl,rfl⟩ | ⟨x,t,rfl,rfl⟩
 ·exact⟨t,rfl⟩
 ·exact⟨t,rfl⟩
theorem ny{X:Cx}{pins:List (Addr×Obj)}{σ:St}{H:Hp}{s:Shared}{d:Addr}{od:Obj}{n:Nat}(I:Inv X pins σ H s)
 (h:(∃ar,H d=some (.frz od (.dT ar))∧n=ar.length)∨∃ar,H d=some (.frz od (.dK ar))∧n=ar.length):
 ∃es ep,(d==sysModules)=false∧s.heap.get? d=some od∧od.ExactDict∧od.data= .dict es ep∧es.size=n∧∀i,i<n→∃e x,es[i]? =some e∧RelV x e.key∧Gy H d od i x:=by
 rcases h with⟨ar,e,rfl⟩ | ⟨ar,e,rfl⟩
 ·obtain⟨ho,z,lo,xs,rel,o,es,ep,h1,h2,h3,h4,h5⟩:=(show ObjOk X.prog X.w H s.heap d (.frz od (.dT ar)) from I.hok d _ e)
  rw[ho] at h1
  cases h1
  have hl:es.size=ar.length:=by
   rw[←Array.length_toList,h4,List.length_map]
   exact(Paired.length rel).symm
  refine⟨es,ep,lo,ho,h2,h3,hl,fun i hi=>?_⟩
  obtain⟨q,e1,e2,e3,e4⟩:=jF rel (List.getElem?_eq_getElem hi)
  refine⟨entryOfKey (tupleKind (aY X.prog X.w)) q, .ref q.2.1,?_,rfl, .inl ⟨ar,ar[i].1,q.2.1,e,?_,rfl,e3⟩⟩
  ·rw[←Array.getElem?_toList,h4,List.getElem?_map,e1]
   rfl
  ·rw[List.getElem?_map,List.getElem?_eq_getElem hi]
   rfl
 ·obtain⟨ho,z,lo,vs,rel,o,es,ep,h1,h2,h3,h4,h5,h6⟩:=(show ObjOk X.prog X.w H s.heap d (.frz od (.dK ar)) from I.hok d _ e)
  rw[ho] at h1
  cases h1
  have hl:es.size=ar.length:=by
   rw[←Array.length_toList,h5.length]
   exact(Paired.length rel).symm
  refine⟨es,ep,lo,ho,h2,h3,hl,fun i hi=>?_⟩
  obtain⟨q,e1,e2,e3⟩:=jF rel (List.getElem?_eq_getElem hi)
  obtain⟨en,e4,e5⟩:=Az h5 e1
  refine⟨en,kV ar[i].1,by rw[←Array.getElem?_toList];exact e4,?_, .inr ⟨ar,ar[i].1,e,by rw[List.getElem?_map,List.getElem?_eq_getElem hi];rfl,rfl⟩⟩
  rw[e2]
  exact IB e5
theorem AY{P:Program}{w:World}{K:W.Frag}{tg:Expr}(d it:Addr)(od:Obj)(es:Array DictEntry)(ep:Nat)(mK:od.data= .dict es ep):
 Turn P w K tg (OF d od) [it] it (fun i h=>h.IsKeyIter it d i es.size ep) where
 mem:=by simp
 obj:=fun i h st b hb=>by
  have e:b=it:=by simpa using hb
  subst e
  obtain⟨o,e,c,dd⟩:=st
  exact⟨o,e,fun v z=>by rw[dd] at z;cases z⟩
 keep:=fun i h h' st k=>st.at fun o e=>k it (by simp) o e
 item:=by
  intro X hP hw hK hc i pins s σ H E I hf st hg
  subst hP hw hK
  obtain⟨n,hn,hi⟩:∃n,((∃ar,H d=some (.frz od (.dT ar))∧n=ar.length)∨∃ar,H d=some (.frz od (.dK ar))∧n=ar.length)∧i<n:=by
   rcases hg with⟨ar,e,hi⟩ | ⟨ar,e,hi⟩
   ·exact⟨_, .inl ⟨ar,e,rfl⟩,hi⟩
   ·exact⟨_, .inr ⟨ar,e,rfl⟩,hi⟩
  obtain⟨JO,ES,lo,ho,hx,pA,hsz,hk⟩:=ny I hn
  rw[mK] at pA
  cases pA
  obtain⟨en,x,e1,rx,ka⟩:=hk i hi
  obtain⟨f0,f1,f2,f3,f4,f5⟩:=hf it (by simp)
  refine uM st ho mK e1 fun h' lR sb=>?_
  have I1:Inv X pins σ H {s with heap:=h'}:=I.turned (t':=s.toks) (fun b o hb e=>(sb.2 b hb).trans e) f0 f1 f3 f4 f5
  obtain⟨o,e2,c,dd⟩:=id lR
  exact⟨_,rfl,nG (s:={s with heap:=h'}) e2 c dd (by decide) ⟨x,H,I1,rx,⟨rfl,ka⟩,lR,fun b hb=>(hf b hb).1⟩⟩
 done:=by
  intro X hP hw hK hc i pins s σ H E I hf st hg
  subst hP hw hK
  obtain⟨n,hn,hi⟩:∃n,((∃ar,H d=some (.frz od (.dT ar))∧n=ar.length)∨∃ar,H d=some (.frz od (.dK ar))∧n=ar.length)∧n≤i:=by
   rcases hg with⟨ar,e,hi⟩ | ⟨ar,e,hi⟩
   ·exact⟨_, .inl ⟨ar,e,rfl⟩,hi⟩
   ·exact⟨_, .inr ⟨ar,e,rfl⟩,hi⟩
  obtain⟨JO,ES,lo,ho,hx,pA,hsz,hk⟩:=ny I hn
  rw[mK] at pA
  cases pA
  obtain⟨f0,f1,f2,f3,f4,f5⟩:=hf it (by simp)
  exact qd (I.ok.hd hc) st (by omega) ho mK fun h' eb=>⟨rfl,I.turned (t':=s.toks) (fun b o hb e=>eb b o hb e) f0 f1 f3 f4 f5⟩
 self:=fun _ _ _ _ _ st h=>wpAny_pyIter_keyiter st h
def tupK(k:List Key):D:= .tup (k.map Fi)
def yP:Key→Bool
 | .inl _=>true
 | .inr x=>decide (x.length≤lim)
def lZ:D→M (List D)
 | .dct ks _=>if ks.all (fun k=>decide (k.length≤lim)&&k.all yP) then M.ret (ks.map tupK) else M.stuck
 | .dci ks _=>if ks.all yP then M.ret (ks.map Fi) else M.stuck
 |_=>M.stuck
theorem uz{K:W.Frag}{F:Hp}{k:Key}(h:yP k=true):Den K F (Fi k) (kV k):=by
 cases k with
 |inl i=>exact rfl
 |inr x=>exact⟨rfl,of_decide_eq_true h⟩
theorem qt{K:W.Frag}{F:Hp}:∀{k:List Key},k.all yP=true→DenL K F (k.map Fi) (k.map kV)
 |[],_=>rfl
 |x::k,h=>by
  rw[List.all_cons,Bool.and_eq_true] at h
  exact .cons (uz h.1) (qt h.2)
theorem Ct{K:W.Frag}{F:Hp}{a:Addr}{ob:Obj}{d:D}{ds:List D}(hd:Den K F d (.ref a))(hF:∃u,F a=some (.frz ob u))(e:lZ d=M.ret ds):ItD K F (OF a ob) ds:=fun F' H' i s1 s2=>by
 unfold lZ at e
 split at e
 ·rename_i ks es
  split at e
  ·rename_i hok
   obtain rfl:=eG e
   obtain⟨a',Ry,vs,z,h2,h3,h4,h5⟩:=hd
   cases z
   obtain⟨u,hu⟩:=hF
   rw[h2] at hu
   cases hu
   have hh:=s2 _ _ (s1 _ _ h2)
   have hz:=jd (a:=ks) (b:=vs) (by rw[h4];exact h3.len)
   have hl:(ks.zip vs).length=ks.length:=by rw[←List.length_map (f:=(·.1)),hz]
   refine⟨fun d e=>?_,fun hle=> .inl ⟨_,hh,by rw[hl];simpa using hle⟩⟩
   rw[List.getElem?_map] at e
   cases q:ks[i]? with
   |none=>rw[q] at e;cases e
   |some k=>
    rw[q] at e
    cases e
    have hi:=(List.getElem?_eq_some_iff.mp q).1
    refine⟨.inl ⟨_,hh,by rw[hl];exact hi⟩,fun x H'' ⟨y1,y2⟩=>?_⟩
    subst y1
    have hk:=List.all_eq_true.mp hok k (List.mem_of_getElem? q)
    rw[Bool.and_eq_true] at hk
    rcases y2 with⟨ar,k',b,q1,q2,rfl,q3⟩ | ⟨ar,k',q1,q2,rfl⟩
    ·rw[hh] at q1
     cases q1
     rw[hz,q] at q2
     cases q2
     have E:=Ext.tup (F:=F') s2 q3
     exact⟨_,E,b,_,rfl,aF,qt hk.2,by rw[List.length_map];exact of_decide_eq_true hk.1⟩
    ·rw[hh] at q1;cases q1
  ·exact(fc e).elim
 ·rename_i ks es
  split at e
  ·rename_i hok
   obtain rfl:=eG e
   obtain⟨a',Ry,vs,z,h2,h3,h4,h5⟩:=hd
   cases z
   obtain⟨u,hu⟩:=hF
   rw[h2] at hu
   cases hu
   have hh:=s2 _ _ (s1 _ _ h2)
   have hz:=jd (a:=ks) (b:=vs) (by rw[h4];exact h3.len)
   have hl:(ks.zip vs).length=ks.length:=by rw[←List.length_map (f:=(·.1)),hz]
   refine⟨fun d e=>?_,fun hle=> .inr ⟨_,hh,by rw[hl];simpa using hle⟩⟩
   rw[List.getElem?_map] at e
   cases q:ks[i]? with
   |none=>rw[q] at e;cases e
   |some k=>
    rw[q] at e
    cases e
    have hi:=(List.getElem?_eq_some_iff.mp q).1
    refine⟨.inr ⟨_,hh,by rw[hl];exact hi⟩,fun x H'' ⟨y1,y2⟩=>?_⟩
    subst y1
    have hk:=List.all_eq_true.mp hok k (List.mem_of_getElem? q)
    rcases y2 with⟨ar,k',b,q1,q2,rfl,q3⟩ | ⟨ar,k',q1,q2,rfl⟩
    ·rw[hh] at q1;cases q1
    ·rw[hh] at q1
     cases q1
     rw[hz,q] at q2
     cases q2
     exact⟨F',Ext.refl s2,uz hk⟩
  ·exact(fc e).elim
 ·exact(fc e).elim
section
variable{X:Cx}{Xw:Nat→Hp→Prop}{tg l:Expr}{δ:DE}
theorem Dj(h:PD X Xw l δ):v7 X Xw tg l (fun ρ=>δ ρ>>=lZ):=by
 intro pins s σ H R I ⟨F,ρ,S,w⟩
 refine b5 (h pins s σ H (fun v H1=>∃F1 d,Ext F H F1 H1∧Den X.K F1 d v∧WPI X.K Xw F1 H1 (lZ d) R) I ⟨F,ρ,S,WPI.bind w⟩) fun u s1 ⟨v,H1,I1,r1,F1,d,e1,q1,w1⟩=>?_
 rcases(lZ d).cs with z | ⟨n,z⟩ | ⟨ds,z⟩
 ·rw[z] at w1;exact w1.elim
 ·exfalso
  unfold lZ at z
  split at z
  ·split at z<;>cases z
  ·split at z<;>cases z
  ·cases z
 ·rw[z] at w1
  obtain⟨a,ob,u',rfl,hF,hn⟩:∃a ob u',v= .ref a∧F1 a=some (.frz ob u')∧∃n,((∃ar,H1 a=some (.frz ob (.dT ar))∧n=ar.length)∨∃ar,H1 a=some (.frz ob (.dK ar))∧n=ar.length):=by
   unfold lZ at z
   split at z
   ·obtain⟨a,ob,vs,e,h2,_⟩:=q1;exact⟨a,ob,_,e,h2,_, .inl ⟨_,e1.fh _ _ h2,rfl⟩⟩
   ·obtain⟨a,ob,vs,e,h2,_⟩:=q1;exact⟨a,ob,_,e,h2,_, .inr ⟨_,e1.fh _ _ h2,rfl⟩⟩
   ·exact(fc z).elim
  obtain⟨n,hn⟩:=hn
  cases (show u=_ from r1)
  obtain⟨es,ep,lo,ho,hx,hd,hsz,hk⟩:=ny I1 hn
  refine qq lo ho hx hd ?_
  refine⟨s1.heap.objs.size,[s1.heap.objs.size],_,_,H1,rfl,I1.kept (t':=s1.toks) fun b o e=>Heap.get?_push_of_some _ e,AY a _ ob es ep hd,⟨_,Heap.get?_push_size _ rfl,rfl,rfl⟩,fun b hb=>?_,w1 _ _ _ (Ext.refl e1.fh) (Ct q1 ⟨_,hF⟩ z)⟩
  have e:b=s1.heap.objs.size:=by simpa using hb
  subst e
  exact I1.fpOk (Nat.le_refl _) (I1.hok.fresh (Nat.le_refl _))
end
end L3
namespace L3
open PySem
section
variable{prog:Program}{w:World}{K:Type}[DecidableEq K]{knd:HeapKind prog w K}{A:Around}{E:Value→Shared→Prop}{s:Shared}
theorem o5{d a:Addr}{xs:List (K×Addr×Value)}{k:K}{v:Value}{Q:Unit→Shared→Prop}(hu:knd.room A)(zU:knd.is s.heap k a)(hm:s.heap.DictOfH knd d xs)(hsz:xs.length≤sizeLine)
 (hQ:∀h',h'.DictOfH knd d (storedH xs k a v)→Heap.SameBut d s.heap h'→Q () {s with heap:=h'}):wpAny (model prog w) A (dictSetHashed d (.ref a) (knd.hash k) v) Q E s:=by
 obtain⟨o,es,ep,ho,hc,hd,he,Nt,hn⟩:=hm
 unfold dictSetHashed
 refine wpAny_holding (wpAny_bind (wpAny_dictFind_heap hu zU ho hd he Nt hn (fun rW=>?_) fun j p hj=>?_))
 ·have e0:=atKey_none_of_get rW
  have hz:es.size≤sizeLine:=by rw[size_of_entries he];exact hsz
  refine wpAny_bind (wpAny_rule (wpAny_updateDictKeys (hz:=hz) ho hd (hQ _ ?_ (Heap.SameBut.update ..))))
  rw[storedH_new e0]
  refine⟨_,_,ep+1,Heap.get?_update_self _ ho (Obj.isFreed_of_dict (Obj.data_mapDictKeys hd _)),hc.mapDictKeys _,Obj.data_mapDictKeys hd _,by simp[he,entryOfKey],fun x hx=>?_,?_⟩
  ·rcases List.mem_append.mp hx with hx | hx
   ·exact knd.keeps (Nt x hx) ho hd (Heap.SameBut.update ..)
   ·obtain rfl:x=(k,a,v):=by simpa using hx
    exact knd.keeps zU ho hd (Heap.SameBut.update ..)
  ·rw[List.map_append]
   refine List.nodup_append.mpr ⟨hn,by simp,fun x hx y hy z=>?_⟩
   have hy:y=k:=by simpa using hy
   exact not_mem_keys_of_get rW (by rw[←hy,←z];exact hx)
 ·have e0:=atKey_of_get hn hj
  refine wpAny_bind (wpAny_rule (wpAny_bind (wpAny_updateDict ho hd (wpAny_point (hQ _ ?_ (Heap.SameBut.update ..))))))
  rw[storedH_old e0]
  refine⟨_,_,ep,Heap.get?_update_self _ ho (Obj.isFreed_of_dict (Obj.data_mapDict hd _)),hc.mapDict _,Obj.data_mapDict hd _,?_,fun x hx=>?_,by rw[keys_map_putAt];exact hn⟩
  ·have:=modify_map_putAt (entryOfKey knd) (fun e:DictEntry=>{e with val:=v}) k v (fun _ _=>rfl) hn hj
   rw[←he] at this
   obtain⟨l⟩:=es
   simpa using this
  ·obtain⟨y,hy,rfl⟩:=List.mem_map.mp hx
   unfold putAt
   split<;>exact knd.keeps (Nt y hy) ho hd (Heap.SameBut.update ..)
def cM(xs ys:List (K×Addr×Value)):List (K×Addr×Value):=ys.foldl (fun acc y=>storedH acc y.1 y.2.1 y.2.2) xs
theorem vE(xs:List (K×Addr×Value))(k:K)(a:Addr)(v:Value):(storedH xs k a v).length≤xs.length+1:=by
 unfold storedH;split<;>simp
theorem l6:∀(ys xs:List (K×Addr×Value)),(cM xs ys).length≤xs.length+ys.length
 |[],xs=>Nat.le_refl _
 |y::ys,xs=>by
  have h1:=l6 ys (storedH xs y.1 y.2.1 y.2.2)
  have h2:=vE xs y.1 y.2.1 y.2.2
  show (cM (storedH xs y.1 y.2.1 y.2.2) ys).length≤_
  rw[List.length_cons];omega
theorem si{xs ys:List (K×Addr×Value)}{i:Nat}{y:K×Addr×Value}(h:ys[i]? =some y):cM xs (ys.take (i+1))=storedH (cM xs (ys.take i)) y.1 y.2.1 y.2.2:=by
 rw[List.take_add_one,h]
 unfold cM
 rw[List.foldl_append]
 rfl
theorem l7:∀(ys acc:List (K×Addr×Value)),((acc++ys).map (·.1)).Nodup→cM acc ys=acc++ys
 |[],acc,_=>by simp[cM]
 |y::ys,acc,hn=>by
  show cM (storedH acc y.1 y.2.1 y.2.2) ys=_
  have Ny:y.1∉acc.map (·.1):=fun h=>by
   rw[List.map_append] at hn
   exact(List.nodup_append.mp hn).2.2 _ h _ (by simp) rfl
  have e0:atKey acc y.1=none:=atKey_none_of_get fun j p hj=>Ny (List.mem_map.mpr ⟨_,List.mem_of_getElem? hj,rfl⟩)
  rw[storedH_new e0,l7 ys (acc++[(y.1,y.2.1,y.2.2)]) (by simpa using hn)]
  simp
theorem rM{id:String}{o:Addr}{ob:Obj}{es:Array DictEntry}{ep:Nat}{Q:Array DictEntry→Shared→Prop}(ho:s.heap.get? o=some ob)(hd:ob.data= .dict es ep)
 (hq:∀e∈es.toList,∃a,e.key= .ref a∧s.TypeIs (.ref a) "tuple")(hh:∀e∈es.toList,(es.filter (·.hash==e.hash)).size≤1)(h:Q es s):wpAny (model prog w) A (Builtin.Dict.entriesForEmpty id o) Q E s:=by
 unfold Builtin.Dict.entriesForEmpty
 refine wpAny_bind (wpAny_dictEntries ho hd ?_)
 rw[←Array.forIn_toList]
 refine wpAny_bind (wpAny_forIn_list _ (fun rest _ s'=>s'=s∧∀e∈rest,e∈es.toList) _ ?_ ?_ _ _ ⟨rfl,fun _ h=>h⟩)
 ·rintro e rest b s' ⟨rfl,hr⟩
  obtain⟨a,ea,ta⟩:=hq e (hr e (List.mem_cons_self ..))
  have hf:=hh e (hr e (List.mem_cons_self ..))
  have dw:¬((es.filter (·.hash==e.hash)).size>1):=by omega
  rw[ea]
  unfold Builtin.Dict.quietEq
  refine wpAny_bind (wpAny_bind (wpAny_specialOf ta F.slot_tuple_eq.lookup (wpAny_pure ?_)))
  simp only[dw,if_false]
  have:(some (Value.builtin "tuple.__eq__")==some (Value.builtin "object.__eq__"))=false:=by decide
  simp only[this,Bool.not_false,if_true]
  exact wpAny_pure ⟨rfl,fun x hx=>hr x (List.mem_cons_of_mem _ hx)⟩
 ·rintro b s' ⟨rfl,_⟩
  exact wpAny_pure h
theorem n6{nm:String}{d o:Addr}{xs ys:List (K×Addr×Value)}{Q:Unit→Shared→Prop}(hu:knd.room A)(O_:d≠o)(Q4:(o==sysModules)=false)(hd:s.heap.DictOfH knd d xs)(ho:s.heap.DictOfH knd o ys)
 (QS:∀{h:Heap}{k:K}{a:Addr},knd.is h k a→∃ob,h.get? a=some ob∧ob.cls= .type "tuple")(hh:xs=[]→(ys.map fun y=>knd.hash y.1).Nodup)(hsz:xs.length+ys.length≤sizeLine)
 (hQ:∀h',h'.DictOfH knd d (cM xs ys)→Heap.SameBut d s.heap h'→Q () {s with heap:=h'}):wpAny (model prog w) A (Builtin.Dict.mergeDict nm d o) Q E s:=by
 obtain⟨od,Qb,P9,zX,v3,mK,QD,Nn,Bj⟩:=id hd
 obtain⟨oo,wx,P_,KU,RK,zQ,Bh,Nr,rW⟩:=id ho
 have hlen:=size_of_entries Bh
 unfold Builtin.Dict.mergeDict
 rw[if_neg (by simpa using O_)]
 unfold Builtin.Dict.showsAll
 rw[if_neg (by rw[Q4];exact Bool.false_ne_true)]
 refine wpAny_bind (wpAny_pure (wpAny_bind (wpAny_dictEntries KU zQ ?_)))
 have loop:∀(body:Nat→PUnit→Sem (ForInStep PUnit)),body=(fun i (_:PUnit)=>(do
       let l'←dictEntries o
       match l'[i]? with
        |some e=>do
         holding [e.key,e.val] (dictSetHashed d e.key e.hash e.val)
         let ES←dictEpoch o
         if (ES !=P_)=true then do (unsupported (toString nm++toString ":source-changed-during-callback"):Sem PUnit);pure (ForInStep.yield PUnit.unit) else pure (ForInStep.yield PUnit.unit)
        |_=>do
         (unsupported "internal:dict-merge":Sem PUnit)
         pure (ForInStep.yield PUnit.unit):Sem (ForInStep PUnit)))→wpAny (model prog w) A (forIn [:wx.size] PUnit.unit body) (fun _ s'=>Q () s') E s:=by
  rintro _ rfl
  rw[Std.Legacy.Range.forIn_eq_forIn_range']
  simp only[Std.Legacy.Range.size,Nat.sub_zero,Nat.add_sub_cancel,Nat.div_one]
  refine wpAny_forIn_list _ (fun rest _ s'=>∃h' i,s'={s with heap:=h'}∧rest=List.range' i (wx.size - i)∧i≤wx.size∧h'.DictOfH knd d (cM xs (ys.take i))∧h'.get? o=some oo∧Heap.SameBut d s.heap h') _ ?_ ?_ _ _
   ⟨s.heap,0,rfl,by simp,Nat.zero_le _,by simpa[cM] using hd,KU,Heap.SameBut.refl _ _⟩
  ·rintro x rest b s' ⟨h',i,rfl,hr,hi,pA,HY,rX⟩
   have dw:i<wx.size:=by
    by_cases h:i<wx.size
    ·exact h
    ·rw[show wx.size - i=0 by omega] at hr;simp at hr
   rw[show wx.size - i=(wx.size - (i+1))+1 by omega,List.range'_succ] at hr
   injection hr with h1 h2
   subst h1
   refine wpAny_bind (wpAny_dictEntries HY zQ ?_)
   obtain⟨y,hy⟩:∃y,ys[x]? =some y:=⟨_,List.getElem?_eq_getElem (by omega)⟩
   rw[entry_at Bh x,hy]
   have Q1:(cM xs (ys.take x)).length≤sizeLine:=by
    have e1:=l6 (ys.take x) xs
    rw[List.length_take] at e1
    omega
   have QT:knd.is h' y.1 y.2.1:=knd.keeps (Nr y (List.mem_of_getElem? hy)) zX mK rX
   refine wpAny_bind (wpAny_holding (o5 hu QT pA Q1 fun MU Nd KZ=>?_))
   have G0:MU.get? o=some oo:=(KZ.2 o (Ne.symm O_)).trans HY
   refine wpAny_bind (wpAny_dictEpoch G0 zQ ?_)
   rw[if_neg (by simp)]
   exact wpAny_pure ⟨MU,x+1,rfl,h2,dw,by rw[si hy];exact Nd,G0,rX.trans KZ⟩
  ·rintro b s' ⟨h',i,rfl,hr,hi,pA,HY,rX⟩
   have qi:i=wx.size:=by
    by_cases h:i<wx.size
    ·rw[show wx.size - i=(wx.size - (i+1))+1 by omega,List.range'_succ] at hr;exact nomatch hr
    ·omega
   refine hQ h' ?_ rX
   rw[qi,hlen,List.take_length] at pA;exact pA
 have go:wpAny (model prog w) A (do
  let Kf←dictEpoch o
  let l←dictEntries o
  forIn [:l.size] PUnit.unit fun i (_:PUnit)=>(do
   let l'←dictEntries o
   match l'[i]? with
    |some e=>do
     holding [e.key,e.val] (dictSetHashed d e.key e.hash e.val)
     let ES←dictEpoch o
     if (ES !=Kf)=true then do (unsupported (toString nm++toString ":source-changed-during-callback"):Sem PUnit);pure (ForInStep.yield PUnit.unit) else pure (ForInStep.yield PUnit.unit)
    |_=>do
     (unsupported "internal:dict-merge":Sem PUnit)
     pure (ForInStep.yield PUnit.unit):Sem (ForInStep PUnit))
  pure ()) Q E s:=by
  refine wpAny_bind (wpAny_dictEpoch KU zQ (wpAny_bind (wpAny_dictEntries KU zQ (wpAny_bind ?_))))
  exact wpAny_mono (loop _ rfl) (fun _ _ h=>wpAny_pure h) fun _ _ h=>h
 dsimp only
 split
 ·refine wpAny_bind (wpAny_dictEntries zX mK ?_)
  split
  ·rename_i HK
   have Ia:xs=[]:=by
    have h0:Qb= #[]:=Array.isEmpty_iff.mp HK
    have:=size_of_entries QD
    rw[h0] at this
    exact List.length_eq_zero_iff.mp (by simpa using this.symm)
   subst Ia
   have Q2:=hh rfl
   refine wpAny_bind (rM KU zQ (fun e he=>?_) (fun e he=>?_) ?_)
   ·rw[Bh] at he
    obtain⟨y,hy,rfl⟩:=List.mem_map.mp he
    obtain⟨ob,h1,h2⟩:=QS (Nr y hy)
    exact⟨y.2.1,rfl,ob,h1,h2⟩
   ·have:(wx.filter (·.hash==e.hash)).size=((ys.map fun y=>knd.hash y.1).filter (· ==e.hash)).length:=by
     rw[←Array.length_toList,Array.toList_filter,Bh,List.filter_map,List.filter_map,List.length_map,List.length_map]
     rfl
    rw[this]
    have hc:=List.nodup_iff_count.mp Q2 e.hash
    rw[List.count_eq_countP,List.countP_eq_length_filter] at hc
    exact hc
   ·have hm:cM ([]:List (K×Addr×Value)) ys=ys:=by
     rw[l7 ys [] (by simpa using rW)];rfl
    rw[hm] at hQ
    split
    ·have Rc:wx.size≤sizeLine+1:=by simp at hsz;omega
     refine wpAny_bind (wpAny_updateDictKeysTo zX mK (wpAny_pure (hQ _ ⟨_,_,P9+1,Heap.get?_update_self _ zX (Obj.isFreed_of_dict (Obj.data_mapDictKeys mK _)),v3.mapDictKeys _,Obj.data_mapDictKeys mK _,Bh,fun x hx=>?_,rW⟩ (Heap.SameBut.update ..))) Rc)
     exact knd.keeps (Nr x hx) zX mK (Heap.SameBut.update ..)
    ·rename_i gR
     have h0:wx= #[]:=Array.isEmpty_iff.mp (by simpa using gR)
     have QX:ys=[]:=List.length_eq_zero_iff.mp (by rw[←hlen,h0];rfl)
     subst QX
     exact wpAny_pure (hQ _ hd (Heap.SameBut.refl _ _))
  ·exact go
 ·exact go
end
end L3
namespace L3
open PySem PySem.Spec L2
open PyProof.Rows hiding St
theorem Gs{P:Program}{w:World}{h:Heap}{k:List Key}{a:Addr}(h1:(tupleKind (aY P w)).is h k a):∃ob,h.get? a=some ob∧ob.cls= .type "tuple":=by
 obtain⟨ob,aD,n,q1,q2,_⟩:=h1
 exact⟨ob,q1,q2⟩
def hX(ar more:List (List Key×V)):List (List Key×V):=more.foldl (fun acc kv=>putK acc kv.1 kv.2) ar
theorem yJ{H:Hp}:∀{more:List (List Key×V)}{ys:List (List Key×Addr×Value)},KT H more ys→∀{ar:List (List Key×V)}{xs:List (List Key×Addr×Value)},KT H ar xs→KT H (hX ar more) (cM xs ys)
 |_,_, .nil,_,_,q=>q
 |_,_, .cons h t,ar,xs,r=>by
  refine yJ t ?_
  have:=KT.put r _ h.2.1 h.2.2
  rw[h.1] at this
  show KT H (putK ar _ _) (storedH xs _ _ _)
  rw[h.1]
  exact this
theorem nW:∀(more ar:List (List Key×V)),(hX ar more).length≤ar.length+more.length
 |[],ar=>Nat.le_refl _
 |p::r,ar=>by
  have h1:=nW r (putK ar p.1 p.2)
  have h2:=dj ar p.1 p.2
  show (hX (putK ar p.1 p.2) r).length≤_
  rw[List.length_cons];omega
def dQ(k:List Int):Int:=reduceHash (Builtin.Tuple.tupleHashOf (k.map hashInt))
theorem B_{P:Program}{w:World}(k:List Int):(tupleKind (aY P w)).hash (nT k)=dQ k:=by
 show reduceHash (Builtin.Tuple.tupleHashOf ((nT k).map (Lf w)))=_
 unfold dQ nT
 rw[List.map_map]
 rfl
section
variable{X:Cx}{pins:List (Addr×Obj)}{σ:St}{H:Hp}{s:Shared}{a b:Addr}{A:Around}{E:Value→Shared→Prop}
theorem BO{ar more:List (List Key×V)}{ks:List (List Int)}{Q:Value→Shared→Prop}(hu:A.units+2<cLine)(I:Inv X pins σ H s)(ha:H a=some (.dT ar))(hb:Rd H b (.dT more))(B9:a≠b)(hk:more.map (·.1)=ks.map nT)
 (hh:ar=[]→(ks.map dQ).Nodup)(hz:ar.length+more.length≤sizeLine)(h:∀s',Inv X pins σ (upd H a (.dT (hX ar more))) s'→Q .none s'):
 wpAny (model X.prog X.w) A (call (.builtin "dict.update") [.ref a, .ref b]) Q E s:=by
 obtain⟨z1,lo1,xs,LO,L8⟩:=BU I.hok ha
 obtain⟨z2,Rw,ys,DI,Be⟩:=nz I.hok hb
 have l1:=Paired.length LO
 have l2:=Paired.length DI
 have hT:=L8.typeIs
 refine wpAny_call_entry PySem.F.slot_dict_update hT PySem.F.entry_dict_update ?_ (PySem.F.args_dict_update_2 _ _)
 unfold Builtin.«dict.update»
 refine wpAny_bind ?_
 unfold Builtin.Dict.selfAndRest
 refine wpAny_bind (wpAny_notOrdered_dict hT ?_)
 show wpAny _ _ (pure (a,[Value.ref b])) _ _ s
 refine wpAny_pure ?_
 show wpAny _ _ (Builtin.Dict.updateFrom "dict.update" a (.ref b) [] .none) _ _ s
 unfold Builtin.Dict.updateFrom
 refine wpAny_bind (wpAny_typeOf Be.typeIs ?_)
 rw[if_neg (by decide)]
 refine wpAny_bind ?_
 unfold Builtin.Dict.merge
 refine wpAny_bind ?_
 unfold Builtin.Dict.readDirectly
 refine wpAny_bind (wpAny_isInstance Be.typeIs isSubtype_dict_dict ?_)
 simp only[Bool.not_true,Bool.false_eq_true,if_false]
 refine wpAny_bind (wpAny_specialOf Be.typeIs PySem.F.slot_dict_iter.lookup (wpAny_pure ?_))
 simp only[beq_self_eq_true,if_true]
 refine wpAny_bind (wpAny_pure ?_)
 refine n6 (knd:=tupleKind (aY X.prog X.w)) (show A.in1.units<cLine by show A.units+1<cLine;omega) B9 Rw L8 Be Gs (fun e0=>?_) (by omega) fun h' BP rX=>?_
 ·have e1:ar=[]:=List.length_eq_zero_iff.mp (by rw[l1,e0];rfl)
  have:=hh e1
  have e2:(ys.map fun y=>(tupleKind (aY X.prog X.w)).hash y.1)=ks.map dQ:=by
   have e3:more.map (·.1)=ys.map (·.1):=mz (fun _ _ r=>r.1) DI
   rw[show (fun y:List Key×Addr×Value=>(tupleKind (aY X.prog X.w)).hash y.1)=(tupleKind (aY X.prog X.w)).hash∘(·.1) from rfl,←List.map_map,←e3,hk,List.map_map]
   exact List.map_congr_left fun k _=>B_ k
  rw[e2];exact this
 ·show wpAny _ _ (Builtin.Dict.addKeywords a []>>=_) _ _ _
  refine wpAny_bind (wpAny_pure (wpAny_pure ⟨.none,rfl,h _ ?_⟩))
  obtain⟨q,es,ep,hq,h2,h3,h4,_,h5⟩:=BP
  have hl:(hX ar more).length≤sizeLine:=by have:=nW more ar;omega
  refine jP I (t':=s.toks) (by rw[ha];exact True.intro) rX ⟨q,hq⟩ ⟨hl,lo1,_,(yJ DI LO).keeps fun c ys ec=>?_,q,es,ep,hq,h2,h3,h4,h5⟩
  rw[au (CN ec ha (fun z=>nomatch z))]
  exact ec
end
def bX(ks:List (List Key))(ds:List D):List (List Key)→List D→List (List Key)×List D
 |k::ks',d::ds'=>bX (c6 ks ds k) (cx ks ds k d) ks' ds'
 |_,_=>(ks,ds)
def Ei(ks:List (List Key))(ds:List D):D→Option C
 | .dct ks' ds'=>match eT ks' with
   |some ns=>if ds.length+ds'.length≤lim∧(ks.isEmpty=true→(ns.map dQ).Nodup) then some (.dct (bX ks ds ks' ds').1 (bX ks ds ks' ds').2) else none
   |none=>none
 |_=>none
theorem n4{K:W.Frag}{F:Hp}:∀{ks':List (List Key)}{ds':List D}{vs':List V}{ks:List (List Key)}{ds:List D}{vs:List V},DenL K F ds' vs'→ks'.length=ds'.length→DenL K F ds vs→ks.length=ds.length→
 ∃ws,hX (ks.zip vs) (ks'.zip vs')=(bX ks ds ks' ds').1.zip ws∧DenL K F (bX ks ds ks' ds').2 ws∧(bX ks ds ks' ds').1.length=(bX ks ds ks' ds').2.length
 |[],[],vs',ks,ds,vs,h',_,h,hl=>⟨vs,rfl,h,hl⟩
 |k::ks',d::ds',vs',ks,ds,vs,⟨v,r,e,h1,h2⟩,wH,h,hl=>by
  subst e
  obtain⟨ws,e1,e2,e3⟩:=sU (K:=K) (F:=F) h1 k h hl
  obtain⟨us,q1,q2,q3⟩:=n4 (ks':=ks') (ds':=ds') (vs':=r) h2 (by simpa using wH) e2 e3
  refine⟨us,?_,q2,q3⟩
  show hX (putK (ks.zip vs) k v) (ks'.zip r)=_
  rw[e1]
  exact q1
 |[],_::_,_,_,_,_,_,wH,_,_=>by simp at wH
 |_::_,[],_,_,_,_,_,wH,_,_=>by simp at wH
theorem DC{κ:Type}[DecidableEq κ]{ks:List κ}{ds:List D}{k:κ}{d:D}(hl:ks.length=ds.length):(cx ks ds k d).length≤ds.length+1:=by
 unfold cx
 split
 ·rw[iu ks ds k d hl];omega
 ·simp
theorem DG{κ:Type}[DecidableEq κ]{ks:List κ}{ds:List D}{k:κ}{d:D}(hl:ks.length=ds.length):(c6 ks ds k).length=(cx ks ds k d).length:=by
 unfold cx c6
 split
 ·rw[iu ks ds k d hl];exact hl
 ·simp[hl]
theorem n5:∀{ks':List (List Key)}{ds':List D}{ks:List (List Key)}{ds:List D},ks.length=ds.length→(bX ks ds ks' ds').2.length≤ds.length+ds'.length
 |[],ds',ks,ds,_=>by show ds.length≤_;omega
 |_::_,[],ks,ds,_=>by show ds.length≤_;simp
 |k::ks',d::ds',ks,ds,hl=>by
  have h1:=n5 (ks':=ks') (ds':=ds') (ks:=c6 ks ds k) (ds:=cx ks ds k d) (DG hl)
  have h2:=DC (k:=k) (d:=d) hl
  show (bX (c6 ks ds k) (cx ks ds k d) ks' ds').2.length≤_
  rw[List.length_cons];omega
section
variable{X:Cx}{Xw:Nat→Hp→Prop}{o e f:Expr}{δ δo δe δf:DE}{pos p apos bp:Pos}{x:Str}{i:Nat}
def AM(i:Nat)(δ:DE):DS:=fun ρ=>match xo ρ i with
 |some (.dct ks ds)=>δ ρ>>=fun d=>match Ei ks ds d with
  |some c'=>M.ret (.nx (ρ.set i (some (.ow c'))))
  |none=>M.stuck
 |_=>M.stuck
theorem Jh{td ty:TE}(hu:X.A.units+2<cLine)(ho:PE X o td)(he:PE X e ty)(m:M1 X o "update" apos e bp):
 PE X (.Call (.Attribute o "update" apos) [e] [] bp) (fun σ H Q=>td σ H fun x H1=>∃a,x= .ref a∧OE H1 a∧ty σ H1 fun y H2=>∃(b:Addr) (ar more:List (List Key×V)) (ks:List (List Int)),y= .ref b∧H2 a=some (.dT ar)∧Rd H2 b (.dT more)∧a≠b∧more.map (·.1)=ks.map nT∧(ar=[]→(ks.map dQ).Nodup)∧ar.length+more.length≤sizeLine∧Q .non (upd H2 a (.dT (hX ar more)))):=by
 intro pins s σ H Q I h
 refine wpAny_Call_method m.base m.few m.line PySem.F.plainAttrs_dict PySem.F.slot_dict_update (by rfl) (b5 (ho pins s σ H _ I h) fun u s1 ⟨x,H1,I1,rx,a,ex,d,q1⟩=>?_)
 subst ex
 obtain rfl:u=Value.ref a:=rx
 obtain⟨t1,t2,_⟩:=Il I1 d
 refine⟨t1,t2,?_⟩
 rw[m.trees]
 refine Calls.callWith_builtin rfl (Calls.evalArgs_plain (Calls.spliced_cons (b5 (he pins s1 σ H1 _ I1 q1) fun iv s2 ⟨y,H2,I2,ry,b,ar,more,ks,ey,k1,k2,k3,k4,k5,k6,q2⟩=>Calls.spliced_nil ?_)))
 subst ey
 obtain rfl:iv=Value.ref b:=ry
 exact BO hu I2 k1 k2 k3 k4 k5 k6 fun s3 I3=>⟨.non,_,I3,rfl,q2⟩
theorem FZ(hu:X.A.units+64<cLine)(hv:PE X (.Name x p) (o_ i))(he:PD X Xw e δ)(m:M1 X (.Name x p) "update" apos e bp)(hs:swapsWith (.Call (.Attribute (.Name x p) "update" apos) [e] [] bp) none pos.line X.env=pure false:=by rfl):
 kR X Xw (.Expr (.Call (.Attribute (.Name x p) "update" apos) [e] [] bp) pos) (AM i δ):=fun F₀ H₀=>PS.weak (mW (Jh (by omega) hv he m) hs) fun D σ H ⟨F,ρ,s,w⟩=>by
 unfold AM at w
 split at w
 ·rename_i ks ds Mi
  have hi:=qL Mi
  obtain⟨v,NO,a,oh,rfl,hH,hF,vs,rfl,hd,hl,hz⟩:=s.st.den i _ hi
  refine⟨.ref a,NO,a,rfl, .inr ⟨_, .inl hH⟩,F,ρ,s.st,?_⟩
  rcases(δ ρ).cs with q | ⟨n,q⟩ | ⟨d,q⟩
  ·rw[q] at w;exact w.elim
  ·rw[q] at w⊢;exact fun F' H' e'=>w F' H' (s.ext.trans e')
  ·rw[q] at w⊢
   intro u H1 F1 e1 hq
   have w:WPS X.K Xw F₀ H₀ (match Ei ks ds d with | some c'=>M.ret (.nx (ρ.set i (some (.ow c')))) | none=>M.stuck) D:=w
   cases d with
   |dct ks' ds'=>
    obtain⟨b,ob,vs',rfl,k2,k3,k4,k5⟩:=hq
    cases hc:Ei ks ds (.dct ks' ds') with
    |none=>rw[hc] at w;exact w.elim
    |some c'=>
     rw[hc] at w
     have hc:(match eT ks' with | some ns=>if ds.length+ds'.length≤lim∧(ks.isEmpty=true→(ns.map dQ).Nodup) then some (C.dct (bX ks ds ks' ds').1 (bX ks ds ks' ds').2) else none | none=>none)=some c':=hc
     cases hn:eT ks' with
     |none=>rw[hn] at hc;cases hc
     |some ns=>
      rw[hn] at hc
      have hc:(if ds.length+ds'.length≤lim∧(ks.isEmpty=true→(ns.map dQ).Nodup) then some (C.dct (bX ks ds ks' ds').1 (bX ks ds ks' ds').2) else none)=some c':=hc
      split at hc
      ·rename_i Kw
       cases hc
       have O9:=DenL.mono e1.ff hd
       have l1:=O9.len
       have l2:=k3.len
       have B9:a≠b:=fun z=>by
        have:=e1.old hH (fun _ z=>nomatch z)
        rw[hF,z,k2] at this
        cases this
       obtain⟨ws,m1,m2,m3⟩:=n4 k3 k4 O9 hl
       refine⟨b,ks.zip vs,ks'.zip vs',ns,rfl,e1.hh _ _ hH, .inr ⟨ob,e1.fh _ _ k2⟩,B9,by rw[jd (by rw[k4];exact l2),k_ hn],fun z=>Kw.2 ?_,?_,?_⟩
       ·have:=jd (a:=ks) (b:=vs) (by rw[hl];exact l1)
        rw[z] at this
        rw[←this];rfl
       ·rw[List.length_zip,List.length_zip]
        have:=c8
        omega
       ·rw[m1]
        exact w σ F1 _ ((s.ext' e1).chg (c₀:= .dct (bX ks ds ks' ds').1 (bX ks ds ks' ds').2) hi NO ⟨ws,rfl,m2,m3,by have:=n5 (ks':=ks') (ds':=ds') hl;omega⟩)
      ·cases hc
   |_=>exact w.elim
 ·exact w.elim
end
section
variable{X:Cx}{Xw:Nat→Hp→Prop}{o e f:Expr}{δ δo δe δf:DE}{δs:DA}{pos p apos bp:Pos}{x:Str}{i:Nat}
end
section
variable{X:Cx}{Xw:Nat→Hp→Prop}{a b e JP:Expr}{δ δa δb δs:DE}{pos p2:Pos}
end
section
variable{prog:Program}{w:World}{A:Around}{E:Value→Shared→Prop}{s:Shared}
end
def rR:List Nat→GA
 |[]=>Kl
 |i::is=>GR (B7 i) (rR is)
def xG:List Nat→List D→a9→a9
 |i::is,d::ds,ρ=>xG is ds (ρ.set i (some (.fz d)))
 |_,_,ρ=>ρ
def qV(is:List Nat):D→a9→Option a9
 | .tup ds,ρ=>if ds.length=is.length then some (xG is ds ρ) else none
 |_,_=>none
theorem q_{K:W.Frag}{F₀ H₀ F H:Hp}{Q:St→Hp→Prop}:∀(is:List Nat) (ds:List D) (vs:List V) (σ:St) (ρ:a9),ds.length=is.length→StOk K F₀ H₀ F H σ ρ→DenL K F ds vs→(∀σ',StOk K F₀ H₀ F H σ' (xG is ds ρ)→Q σ' H)→rR is vs σ H Q
 |[],[],vs,σ,ρ,_,s,h,k=>⟨h,k σ s⟩
 |i::is,d::ds,vs,σ,ρ,hl,s,⟨v,r,e,h1,h2⟩,k=>by
  subst e
  exact⟨v,r,rfl,q_ is ds r _ _ (by simpa using hl) (s.set h1) h2 k⟩
 |[],_::_,_,_,_,hl,_,_,_=>by simp at hl
 |_::_,[],_,_,_,hl,_,_,_=>by simp at hl
theorem y6{K:W.Frag}{is:List Nat}:Bp K (HA K is.length (rR is)) (qV is):=fun F₀ H₀ F H σ ρ ρ' d v Q s q e k=>by
 unfold qV at e
 split at e
 ·rename_i ds
  split at e
  ·rename_i hl
   cases e
   obtain⟨a,vs,rfl,hs,hd,_⟩:=q
   exact⟨a,vs,rfl,SqT.of (s.st.fh _ _ hs),by rw[←hd.len];exact hl,q_ is ds vs σ ρ hl s hd k⟩
  ·cases e
 ·cases e
theorem Gk:∀{σ' σ:St},1<σ'.length→σ'.drop 2=σ→∀v1 v2:V,(σ'.set 0 (some v1)).set 1 (some v2)=[v1,v2].map some++σ
 |x1::x2::r,_,_,hd,v1,v2=>by subst hd;rfl
 |[],_,h,_,_,_=>by simp at h
 |[_],_,h,_,_,_=>by simp at h
theorem Fm:∀{ds:List D},ds.length=2→∃a b,ds=[a,b]
 |[a,b],_=>⟨a,b,rfl⟩
 |[],h=>by simp at h
 |[_],h=>by simp at h
 |_::_::_::_,h=>by simp at h
theorem JG{X:Cx}{x y:Str}{px py pt:Pos}{x1:Nat}{σ:St}(hN:X.N.Nodup)(h0:X.N[0]? =some x)(h1:X.N[1]? =some y)(hx:X.env.scope.names.lookup x=some .local)(hy:X.env.scope.names.lookup y=some .local)(hc:X.calm=true)
 (hn:(assignEach [Expr.Name x px, .Name y py] X.env).length=2:=by rfl)(pN:(assignEach [Expr.Name x px, .Name y py] X.env).findIdx? (·.1)=none:=by rfl)
 (hs:(assignEach [Expr.Name x px, .Name y py] X.env).map (·.2)=assign (.Name x px) X.env::(assignEach [Expr.Name y py] X.env).map (·.2):=by rfl)(EB:(assignEach [Expr.Name y py] X.env).map (·.2)=assign (.Name y py) X.env::(assignEach [] X.env).map (·.2):=by rfl):zk X (.Tuple [.Name x px, .Name y py] x1 pt) 2 σ:=fun pins s σ' F H d ts v u I fh hd rv q e=>by
 cases d with
 |tup ds=>
  have e:(if ds.length=2 then M.ret ds else M.stuck)=M.ret ts:=e
  split at e
  ·rename_i hl
   obtain rfl:=eG e
   obtain⟨d1,d2,rfl⟩:=Fm hl
   ·obtain⟨a,vs,rfl,rX,pA,_⟩:=q
    obtain⟨v1,v2,rfl,q1,q2⟩:=pA.two
    have G:PG X (.Tuple [.Name x px, .Name y py] x1 pt) (HA X.K 2 (rR [0,1])):=xy hc (fY (bj hN h0 (.inl hx) (.inr hx)) (fY (bj hN h1 (.inl hy) (.inr hy)) sS EB) hs) hn pN
    refine b5 (G pins s σ' H (.ref a) u (fun σ2 H2=>H2=H∧σ2=(σ'.set 0 (some v1)).set 1 (some v2)) I rv ⟨a,[v1,v2],rfl,SqT.of (fh _ _ rX),rfl,v1,[v2],rfl,v2,[],rfl,rfl,rfl,rfl⟩) fun _ s2 ⟨σ2,H2,I2,e1,e2⟩=>?_
    subst e1 e2
    refine⟨[v1,v2],?_, .cons q1 (.cons q2 .nil)⟩
    have hl:1<σ'.length:=by rw[I.len];exact(List.getElem?_eq_some_iff.mp h1).1
    have:=Gk hl (show σ'.drop 2=σ from hd) v1 v2
    rw[←this]
    exact I2
  ·exact(fc e).elim
 |_=>exact(fc e).elim
section
variable{prog:Program}{w:World}{A:Around}{E:Value→Shared→Prop}{s:Shared}
end
theorem dr:entryFor table "dict.update.loop"=some Builtin.«dict.update.loop» :=entryFor_of_tree (by kernel_rfl)
theorem bI:plainId "dict.update.loop"=true:=by decide+kernel
section
variable{prog:Program}{w:World}{A:Around}{E:Value→Shared→Prop}{s:Shared}
end
section
variable{X:Cx}{Xw:Nat→Hp→Prop}{a b e e2:Expr}{δa δb:DE}{δs:DA}{p pos:Pos}
end
mutual
def GF:D→Bool
 | .non=>true
 | .bl _=>true
 | .int _=>true
 | .str _=>true
 | .tup ds=>ua ds
 | .lst ds=>ua ds
 | .raw _=>false
 | .exc _=>false
 | .scr _=>false
 | .dct _ _=>false
 | .dci _ _=>false
def ua:List D→Bool
 |[]=>true
 |d::ds=>GF d&&ua ds
end
def u9(ρ:a9):Bool:=ρ.all fun x=>match x with
 |some (.ow (.lst _))=>false
 |_=>true
theorem C9{ρ:a9}{i:Nat}{ds:List D}(h:u9 ρ=true)(e:ρ[i]? =some (some (.ow (.lst ds)))):False:=by
 have:=List.all_eq_true.mp h _ (List.mem_of_getElem? e)
 cases this
section
variable{K:W.Frag}{F H F' H':Hp}{σ:St}{ρ:a9}{h:Heap}{b:Addr}
theorem OwnAt.dict(S:StE K F H σ ρ)(hd:u9 ρ=true)(p:OwnAt σ ρ b):∃o,H b=some o∧((∃x,o= .dT x)∨∃x,o= .dK x):=by
 obtain⟨i,c,h1,h2⟩:=p
 obtain⟨v,h3,a,o,rfl,h4,h5,h6⟩:=S.den i _ h1
 rw[h3] at h2
 cases h2
 refine⟨o,h4,?_⟩
 cases c with
 |lst ds=>exact(C9 hd h1).elim
 |dct ks ds=>obtain⟨vs,rfl,_⟩:=h6;exact .inl ⟨_,rfl⟩
 |dci ks ds=>obtain⟨vs,rfl,_⟩:=h6;exact .inr ⟨_,rfl⟩
open Classical in
theorem yO(S:StE K F H σ ρ)(hd:u9 ρ=true)(E:Ext (fA σ ρ (refA h (OwnAt σ ρ) H) F) (refA h (OwnAt σ ρ) H) F' H'){a:Addr}{o:HO}(e:F' a=some o)(gR:∀q u,o≠ .frz q u):(if OwnAt σ ρ a then none else F' a)=some o:=by
 rw[if_neg,e]
 intro hp
 obtain⟨o',k1,k2⟩:=OwnAt.dict S hd hp
 have k3:fA σ ρ (refA h (OwnAt σ ρ) H) F a=some (gZ ((h.get? a).getD {cls:= .none,data:= .fields #[]}) o'):=by
  unfold fA refA
  rw[if_pos hp,if_pos hp,k1]
  rfl
 have k4:=E.ff a _ k3
 rw[e] at k4
 rcases k2 with⟨x,rfl⟩ | ⟨x,rfl⟩<;>cases k4<;>exact gR _ _ rfl
open Classical in
mutual
theorem BQ(S:StE K F H σ ρ)(hd:u9 ρ=true)(E:Ext (fA σ ρ (refA h (OwnAt σ ρ) H) F) (refA h (OwnAt σ ρ) H) F' H'):∀{d:D}{v:V},GF d=true→Den K F' d v→Den K (fun b=>if OwnAt σ ρ b then none else F' b) d v
 | .non,_,_,q=>q
 | .bl _,_,_,q=>q
 | .int _,_,_,q=>q
 | .str _,_,_,q=>q
 | .tup ds,_,f,⟨a,vs,h1,h2,h3,h4⟩=>⟨a,vs,h1,yO S hd E h2 (fun _ _ z=>nomatch z),kY S hd E f h3,h4⟩
 | .lst ds,_,f,⟨a,vs,h1,h2,h3,h4⟩=>⟨a,vs,h1,yO S hd E h2 (fun _ _ z=>nomatch z),kY S hd E f h3,h4⟩
 | .raw _,_,f,_=>by cases f
 | .exc _,_,f,_=>by cases f
 | .scr _,_,f,_=>by cases f
 | .dct _ _,_,f,_=>by cases f
 | .dci _ _,_,f,_=>by cases f
theorem kY(S:StE K F H σ ρ)(hd:u9 ρ=true)(E:Ext (fA σ ρ (refA h (OwnAt σ ρ) H) F) (refA h (OwnAt σ ρ) H) F' H'):∀{ds:List D}{vs:List V},ua ds=true→DenL K F' ds vs→DenL K (fun b=>if OwnAt σ ρ b then none else F' b) ds vs
 |[],_,_,q=>q
 |d::ds,_,f,⟨v,r,h1,h2,h3⟩=>by
  unfold ua at f
  rw[Bool.and_eq_true] at f
  exact⟨v,r,h1,BQ S hd E f.1 h2,kY S hd E f.2 h3⟩
end
end
section
variable{X:Cx}{Xw:Nat→Hp→Prop}{e:Expr}{δ:DE}
end
def Hf(τ:DT):DT:=fun ρ=>noex (τ (GQ ρ))
section
variable{X:Cx}{Xw:Nat→Hp→Prop}{st:Stmt}{τ:DS}{is:List Nat}
end
section
variable{X:Cx}{Xw:Nat→Hp→Prop}{a b e o:Expr}{δ δa δb δo:DE}{δl:DA}{pos apos bp:Pos}
theorem zf{x y:Str}(h:x.cps.toList=y.cps.toList):x=y:=by
 obtain⟨⟨a⟩⟩:=x
 obtain⟨⟨b⟩⟩:=y
 cases (show a=b from h)
 rfl
end
def wL(x:Int):List Int→List Int
 |[]=>[x]
 |y::r=>if x≤y then x::y::r else y::wL x r
def dP:List Int→List Int
 |[]=>[]
 |x::r=>wL x (dP r)
theorem k9(x:Int):∀l,(wL x l).Perm (x::l)
 |[]=>List.Perm.refl _
 |y::r=>by
  unfold wL
  split
  ·exact List.Perm.refl _
  ·exact((k9 x r).cons y).trans (List.Perm.swap ..)
theorem d6:∀l,(dP l).Perm l
 |[]=>List.Perm.refl _
 |x::r=>(k9 x (dP r)).trans ((d6 r).cons x)
theorem uv{x:Int}:∀{l:List Int},l.Pairwise (· ≤ ·)→(wL x l).Pairwise (· ≤ ·)
 |[],_=>by simp[wL]
 |y::r,h=>by
  rw[List.pairwise_cons] at h
  unfold wL
  split
  ·rename_i hx
   refine List.pairwise_cons.mpr ⟨fun z hz=>?_,List.pairwise_cons.mpr h⟩
   rcases List.mem_cons.mp hz with rfl | hz
   ·exact hx
   ·exact Int.le_trans hx (h.1 z hz)
  ·rename_i hx
   refine List.pairwise_cons.mpr ⟨fun z hz=>?_,uv h.2⟩
   rcases List.mem_cons.mp ((k9 x r).mem_iff.mp hz) with rfl | hz
   ·omega
   ·exact h.1 z hz
theorem ja:∀l,(dP l).Pairwise (· ≤ ·)
 |[]=>List.Pairwise.nil
 |x::r=>uv (ja r)
theorem sJ:∀{a b:List Int},a.Perm b→a.Pairwise (· ≤ ·)→b.Pairwise (· ≤ ·)→a=b
 |[],b,h,_,_=>(List.nil_perm.mp h).symm
 |x::a,[],h,_,_=>absurd (List.perm_nil.mp h) (by simp)
 |x::a,y::b,h,h1,h2=>by
  rw[List.pairwise_cons] at h1 h2
  have e:x=y:=by
   have m1:x∈y::b:=h.mem_iff.mp (List.mem_cons_self ..)
   have m2:y∈x::a:=h.mem_iff.mpr (List.mem_cons_self ..)
   rcases List.mem_cons.mp m1 with z | z
   ·exact z
   ·rcases List.mem_cons.mp m2 with z' | z'
    ·exact z'.symm
    ·have:=h1.1 y z'
     have:=h2.1 x z
     omega
  subst e
  rw[sJ (List.Perm.cons_inv h) h1.2 h2.2]
def o9:List D→M D
 |[.lst ds]=>match nums ds with
  |some ns=>if ns.length<64 then M.ret (.lst ((dP ns).map D.int)) else M.stuck
  |none=>M.stuck
 |_=>M.stuck
theorem mD:∀{us:List Value}{ns:List Int},IntsAre us ns→Vals (ns.map V.int) us
 |_,_, .nil=> .nil
 |_,_, .cons n t h=> .cons ⟨t,rfl⟩ (mD h)
def LN(K:W.Frag):List V→Hp→VK→Prop:=fun xs H Q=>∃p ns,xs=[.ref p]∧SqL K H p (ns.map V.int)∧ns.length<64∧∀q:Addr,H q=none→Q (.ref q) (upd H q (.lst ((dP ns).map V.int)))
section
variable{X:Cx}{Xw:Nat→Hp→Prop}{e:Expr}{δs:DA}{pos p:Pos}
theorem zD:CallR X (.builtin "sorted") (LN X.K):=by
 intro pins s σ H xs us Q I r h
 obtain⟨a,ns,rfl,hq,hn,q⟩:=h
 obtain⟨u,rfl,r1⟩:=r.one
 cases (show u=_ from r1)
 obtain⟨aD,rv,pl,hz⟩:=I.list hq
 have hl:=rv.length
 rw[List.length_map] at hl
 have hi:IntsAre aD ns:=by simpa using intsAre_of rv
 refine sorted_ints pl.isList hi (by omega) fun out Rx h1 h2 h3=>?_
 have e:Rx=dP ns:=sJ (h2.trans (d6 ns).symm) h3 (ja ns)
 subst e
 obtain⟨c,hc⟩:=sortedAll_at s.heap aD out
 have wF:H (s.heap.objs.size+1)=none:=I.hok.fresh (Nat.le_succ _)
 refine⟨.ref (s.heap.objs.size+1),_,I.laid (a:=s.heap.objs.size+1) (t':=s.toks) (o:= .lst ((dP ns).map V.int)) (fun b ob e=>sortedAll_old e) (Nat.le_succ _) ?_,rfl,q _ wF⟩
 exact⟨by rw[List.length_map,(d6 ns).length_eq];have:=c8;unfold lim at this;omega,out.toList,c,mD h1,by simpa using hc⟩
theorem qa{K:W.Frag}{F:Hp}:∀{xs:List Int},DenL K F (xs.map D.int) (xs.map V.int)
 |[]=> .nil
 |x::r=> .cons rfl qa
theorem yY(hg:Gl X "sorted")(hm:X.mg "sorted"=none)(hb:bootBuiltins "sorted"=some (.builtin "sorted"))(ha:kP X Xw [e] δs)(he:starEach [e] X.env=[(false,eval e X.env)]:=by rfl):PD X Xw (.Call (.Name "sorted" p) [e] [] pos) (dA o9 δs):=
 dE zD (fun Xw F H vs ds Q s h w=>by
  unfold o9 at w
  split at w
  ·rename_i ds
   obtain⟨v,rfl,h1⟩:=h.one
   obtain⟨a,ws,rfl,h2,h3,h4⟩:=h1
   split at w
   ·rename_i ns Mh
    split at w
    ·rename_i hok
     have e:=g9 Mh h3
     subst e
     exact⟨a,ns,rfl,SqL.of (s _ _ h2),hok,fun q hq=>WP.fin w (Ext.lay s hq) ⟨q,_,rfl,aF,qa,by rw[List.length_map,(d6 ns).length_eq];unfold lim;omega⟩⟩
    ·exact w.elim
   ·exact w.elim
  ·exact w.elim) hg hm hb ha (by decide) (by decide) he rfl
end
section
variable{X:Cx}{Xw:Nat→Hp→Prop}{a b e o k v k' v':Expr}{δ δa δb δo δk δv δk' δv':DE}{δl δs:DA}{pos apos bp p:Pos}
theorem I8{δ:DF}(h:L6 X Xw e δ):PD X Xw e (fun ρ=>δ ρ>>=fun c=>M.ret c.d):=fun pins s σ H Q I ⟨F,ρ,S,w⟩=>by
 have w:WP X.K Xw F H (δ ρ>>=fun c=>M.ret c.d) Q:=w
 refine wpAny_mono (h pins s σ H (fun v H1=>∃c a o F1,v= .ref a∧Ext F H F1 H1∧H1 a=some o∧F1 a=none∧H a=none∧DenC X.K F1 c o∧WP X.K Xw F H (M.ret c.d) Q) I ⟨F,ρ,S,?_⟩) ?_ (fun _ _ z=>z)
 ·match q:δ ρ,w with
  |none,w=>exact w
  |some (.ex n),w=>exact w
  |some (.ok c),w=>exact fun a o H' F' E h1 h2 h3 h4=>⟨c,a,o,F',rfl,E,h1,h2,h3,h4,w⟩
 ·intro u s1 ⟨v,H1,I1,rv,c,a,o,F1,ev,E,h1,h2,h3,h4,w1⟩
  subst ev
  have ff:Same F1 (upd F1 a (gZ ((s1.heap.get? a).getD {cls:= .none,data:= .fields #[]}) o)):=fun b o e=>by rw[au (fun z=>by rw[z,h2] at e;cases e)];exact e
  have fh:Same (upd F1 a (gZ ((s1.heap.get? a).getD {cls:= .none,data:= .fields #[]}) o)) (upd H1 a (gZ ((s1.heap.get? a).getD {cls:= .none,data:= .fields #[]}) o)):=fun b o e=>by
   by_cases z:b=a
   ·rw[z,aF] at e⊢;exact e
   ·rw[au z] at e⊢;exact E.fh b o e
  refine⟨.ref a,upd H1 a (gZ ((s1.heap.get? a).getD {cls:= .none,data:= .fields #[]}) o),L3.Inv.refrz I1 h1 ?_,rv,w1 _ _ (upd F1 a (gZ ((s1.heap.get? a).getD {cls:= .none,data:= .fields #[]}) o)) ⟨fun b u q=>?_,E.ff.trans ff,fh,fun b hb=>?_⟩ (DenC.den h4 ff aF)⟩
  ·cases c with
   |lst ds=>obtain⟨vs,rfl,_⟩:=h4;exact .inl rfl
   |dct ks ds=>obtain⟨vs,rfl,_⟩:=h4;exact .inr ⟨_,rfl, .inl ⟨_,rfl,rfl⟩⟩
   |dci ks ds=>obtain⟨vs,rfl,_⟩:=h4;exact .inr ⟨_,rfl, .inr ⟨_,rfl,rfl⟩⟩
  ·rw[au (fun z=>by rw[z,h3] at q;cases q)];exact E.hh b u q
  ·rcases E.new b hb with q | q
   ·exact .inl (by rw[au (fun z=>hb (by rw[z];exact h3))];exact q)
   ·exact .inr q
end
section
variable{X:Cx}{Xw:Nat→Hp→Prop}{a b e:Expr}{δ δa δb:DE}{δs:DA}{pos p:Pos}
theorem pf:∀{xs:List V}{us:List Value},xs.length=us.length→(∀(i:Nat) x u,xs[i]? =some x→us[i]? =some u→RelV x u)→Vals xs us
 |[],[],_,_=> .nil
 |x::xs,u::us,hl,h=> .cons (h 0 x u rfl rfl) (pf (by simpa using hl) fun i y v e1 e2=>h (i+1) y v (by simpa using e1) (by simpa using e2))
theorem nv{K:W.Frag}{F:Hp}:∀l:List Nat,DenL K F (l.map fun c=>D.str ⟨#[c]⟩) (l.map fun c=>V.str ⟨#[c]⟩)
 |[]=> .nil
 |c::l=> .cons ⟨rfl,by show 1≤lim;decide⟩ (nv l)
end
end L3
namespace L3
open PySem PySem.SetTable
theorem qI{α:Type}[DecidableEq α]:∀{l U:List α},l.Nodup→(∀x∈l,x∈U)→l.length≤U.length
 |[],_,_,_=>Nat.zero_le _
 |a::l,U,hn,h=>by
  have ha:=h a (List.mem_cons_self ..)
  have zW:=List.nodup_cons.mp hn
  have:=qI (l:=l) (U:=U.erase a) zW.2 fun x hx=>(List.mem_erase_of_ne (fun e:x=a=>zW.1 (e▸hx))).mpr (h x (List.mem_cons_of_mem _ hx))
  rw[List.length_erase_of_mem ha] at this
  have:0<U.length:=List.length_pos_of_mem ha
  rw[List.length_cons]
  omega
def iK(m b:Nat):Nat→Nat×Nat
 |0=>(b % (m+1),b)
 |k+1=>leap m (iK m b k).1 (iK m b k).2
def JZ(m i:Nat):Nat:=(i*5+1) % (m+1)
def it(m:Nat):Nat→Nat→Nat
 |0,x=>x
 |n+1,x=>JZ m (it m n x)
theorem nR(m:Nat):∀a b x,it m (a+b) x=it m a (it m b x)
 |0,b,x=>by rw[Nat.zero_add];rfl
 |a+1,b,x=>by rw[Nat.add_right_comm];show JZ m _=JZ m _;rw[nR m a b x]
theorem K9(m b:Nat):∀k,(iK m b k).2=b / 32 ^ k
 |0=>by simp[iK]
 |k+1=>by
  show (iK m b k).2 / 32=_
  rw[K9 m b k,Nat.div_div_eq_div_mul,Nat.pow_succ]
theorem yz{m b:Nat}(hb:b<2 ^ 64):∀k,(iK m b (k+13)).1=it m k (iK m b 13).1
 |0=>by rw[Nat.zero_add];rfl
 |k+1=>by
  rw[Nat.add_right_comm]
  have hq:(iK m b (k+13)).2 / 32=0:=by
   rw[K9]
   refine Nat.div_eq_of_lt ?_
   refine Nat.lt_of_le_of_lt (m:=b / 32 ^ 13) ?_ ?_
   ·rw[Nat.pow_add,Nat.mul_comm,←Nat.div_div_eq_div_mul]
    exact Nat.div_le_self ..
   ·have:b / 32 ^ 13<1:=Nat.div_lt_of_lt_mul (by omega)
    omega
  show ((iK m b (k+13)).1*5+1+(iK m b (k+13)).2 / 32) % (m+1)=JZ m _
  rw[hq,yz hb k]
  rfl
def Et(m:Nat):Prop:=m=7∨m=31∨m=127
def Ob(m:Nat):Nat→Nat→List Nat
 |0,_=>[]
 |n+1,x=>x::Ob m n (JZ m x)
theorem xm(m:Nat):∀(n x j:Nat),j∈Ob m n x→∃a,a<n∧it m a x=j
 |0,x,j,h=>by cases h
 |n+1,x,j,h=>by
  rcases List.mem_cons.mp h with rfl | h
  ·exact⟨0,by omega,rfl⟩
  ·obtain⟨a,ha,e⟩:=xm m n (JZ m x) j h
   exact⟨a+1,by omega,by rw[nR m a 1 x];exact e⟩
theorem FF{m:Nat}(hm:Et m):(∀j,j<m+1→j∈Ob m (m+1) 0)∧it m (m+1) 0=0:=by
 rcases hm with rfl | rfl | rfl
 ·exact⟨by decide+kernel,by decide+kernel⟩
 ·exact⟨by decide+kernel,by decide+kernel⟩
 ·exact⟨by decide+kernel,by decide+kernel⟩
theorem P4{m:Nat}(hm:Et m){i j:Nat}(hi:i<m+1)(hj:j<m+1):∃n,n≤m∧it m n i=j:=by
 obtain⟨h1,h2⟩:=FF hm
 obtain⟨a,ha,rfl⟩:=xm m _ 0 i (h1 i hi)
 obtain⟨b,hb,rfl⟩:=xm m _ 0 j (h1 j hj)
 by_cases h:a≤b
 ·exact⟨b - a,by omega,by rw[←nR,Nat.sub_add_cancel h]⟩
 ·refine⟨m+1 - a+b,by omega,?_⟩
  rw[←nR,show m+1 - a+b+a=b+(m+1) by omega,nR,h2]
theorem K8(m b k:Nat):(iK m b k).1<m+1:=by
 cases k with
 |zero=>exact Nat.mod_lt _ (by omega)
 |succ k=>exact Nat.mod_lt _ (by omega)
theorem reach{m b:Nat}(hm:Et m)(hb:b<2 ^ 64){j:Nat}(hj:j<m+1):∃k,k≤m+13∧(iK m b k).1=j:=by
 obtain⟨n,hn,e⟩:=P4 hm (K8 m b 13) hj
 exact⟨n+13,by omega,by rw[yz hb,e]⟩
theorem yi(h:Int):bits h<2 ^ 64:=by
 unfold bits
 have h1:=Int.emod_nonneg h (show (2 ^ 64:Int)≠0 by decide)
 have h2:=Int.emod_lt_of_pos h (show (0:Int)<2 ^ 64 by decide)
 omega
def Eu(t:SetTable):Nat→Probe→Probe
 |0,p=>p
 |n+1,p=>Eu t n (t.advance p)
theorem zm(t:SetTable)(p:Probe):(t.advance p).dummy=p.dummy:=by
 unfold advance
 split<;>rfl
theorem rm(t:SetTable):∀a b p,Eu t (a+b) p=Eu t b (Eu t a p)
 |0,b,p=>by rw[Nat.zero_add];rfl
 |a+1,b,p=>by rw[Nat.add_right_comm];exact rm t a b _
def sK(m:Nat)(h:Int)(k:Nat):Probe:={j:=(iK m (bits h) k).1,more:=runEnd m (iK m (bits h) k).1 - (iK m (bits h) k).1,i:=(iK m (bits h) k).1,perturb:=(iK m (bits h) k).2,dummy:=none}
theorem Jv(m i:Nat):runEnd m i - i≤9:=by
 unfold runEnd
 split<;>omega
theorem Bu(t:SetTable):∀(n:Nat) (p:Probe),n≤p.more→Eu t n p={p with j:=p.j+n,more:=p.more - n}
 |0,p,_=>rfl
 |n+1,p,h=>by
  show Eu t n (t.advance p)=_
  have e:t.advance p={p with j:=p.j+1,more:=p.more - 1}:=by unfold advance;rw[if_pos (by omega)]
  rw[e,Bu t n _ (by show n≤p.more - 1;omega)]
  show ({j:=p.j+1+n,more:=p.more - 1 - n,i:=p.i,perturb:=p.perturb,dummy:=p.dummy}:Probe)=_
  rw[Nat.add_assoc,Nat.add_comm 1 n,Nat.sub_sub,Nat.add_comm 1 n]
theorem Bv{t:SetTable}{h:Int}{k:Nat}:Eu t ((sK t.mask h k).more+1) (sK t.mask h k)=sK t.mask h (k+1):=by
 rw[rm,Bu t _ _ (Nat.le_refl _)]
 show t.advance _=_
 unfold advance
 rw[if_neg (show¬(sK t.mask h k).more - (sK t.mask h k).more>0 by rw[Nat.sub_self];exact Nat.lt_irrefl 0)]
 rfl
theorem Bw{t:SetTable}{h:Int}:∀k,∃n,n≤10*k∧Eu t n (t.probeStart h)=sK t.mask h k
 |0=>⟨0,Nat.zero_le _,rfl⟩
 |k+1=>by
  obtain⟨n,hn,e⟩:=Bw (t:=t) (h:=h) k
  have:=Jv t.mask (iK t.mask (bits h) k).1
  refine⟨n+((sK t.mask h k).more+1),?_,by rw[rm,e,Bv]⟩
  show n+(runEnd t.mask (iK t.mask (bits h) k).1 - (iK t.mask (bits h) k).1+1)≤_
  omega
theorem yq{t:SetTable}{hashAt:Nat→Int}{h:Int}(hd:∀j,t.slot j≠ .dummy)(hh:∀j i,t.slot j= .live i→(hashAt i==h)=false):
 ∀(n fuel:Nat) (p:Probe),n<fuel→p.dummy=none→t.slot (Eu t n p).j= .empty→∃j,probe.go t hashAt h fuel p=some (.empty j none)∧t.slot j= .empty
 |n,0,p,hn,_,_=>absurd hn (by omega)
 |n,fuel+1,p,hn,hp,he=>by
  unfold probe.go
  cases hs:t.slot p.j with
  |empty=>exact⟨p.j,by rw[hp],hs⟩
  |dummy=>exact absurd hs (hd _)
  |live i=>
   dsimp only
   rw[hh p.j i hs]
   cases n with
   |zero=>rw[show (Eu t 0 p).j=p.j from rfl,hs] at he;cases he
   |succ n=>
    have:=yq hd hh n fuel (t.advance p) (by omega) (by rw[zm];exact hp) he
    simpa using this
theorem ra{t:SetTable}{j i:Nat}(h:t.slot j= .live i):t.place[i]? =some j:=by
 unfold slot at h
 dsimp only at h
 split at h
 ·rename_i e
  cases h
  exact eq_of_beq e
 ·split at h<;>cases h
theorem kH{t:SetTable}(hd:t.dummies= #[])(j:Nat):t.slot j≠ .dummy:=by
 unfold slot
 dsimp only
 split
 ·exact fun z=>by cases z
 ·split
  ·rename_i e
   rw[hd] at e
   unfold has at e
   simp at e
  ·exact fun z=>by cases z
theorem xI{t:SetTable}(hd:t.dummies= #[])(hp:t.place.size≤t.mask):∃j,j<t.mask+1∧t.slot j= .empty:=by
 apply Classical.byContradiction
 intro rW
 have:∀j∈List.range (t.mask+1),j∈t.place.toList:=fun j hj=>by
  cases hs:t.slot j with
  |empty=>exact absurd ⟨j,List.mem_range.mp hj,hs⟩ rW
  |dummy=>exact absurd hs (kH hd j)
  |live i=>exact List.mem_of_getElem? ((Array.getElem?_toList ..).trans (ra hs))
 have:=qI List.nodup_range this
 rw[List.length_range,Array.length_toList] at this
 omega
theorem xB{t:SetTable}{hashAt:Nat→Int}{h:Int}(hm:Et t.mask)(hd:t.dummies= #[])(hp:t.place.size≤t.mask)(hh:∀i,i<t.place.size→(hashAt i==h)=false):
 ∃j,t.probe hashAt h (t.probeStart h)=some (.empty j none)∧t.slot j= .empty:=by
 obtain⟨j,hj,he⟩:=xI hd hp
 obtain⟨k,hk,e⟩:=reach hm (yi h) hj
 obtain⟨n,hn,ea⟩:=Bw (t:=t) (h:=h) k
 refine yq (kH hd) (fun j i hs=>hh i ?_) n _ _ (by unfold turns;omega) rfl (by rw[ea];show t.slot (iK t.mask (bits h) k).1=_;rw[e];exact he)
 obtain⟨hi,_⟩:=Array.getElem?_eq_some_iff.mp (ra hs)
 exact hi
def vals(o:Array (Option Nat))(n:Nat):List Nat:=(List.range n).filterMap fun j=>o.getD j none
theorem B1{α β:Type}[DecidableEq α]{f g:α→Option β}{a:α}{b:β}(h0:f a=none)(h1:g a=some b):∀{l:List α},l.Nodup→a∈l→(∀x∈l,x≠a→g x=f x)→(l.filterMap g).Perm (b::l.filterMap f)
 |[],_,h,_=>by cases h
 |x::l,hn,h,hg=>by
  have zW:=List.nodup_cons.mp hn
  by_cases e:x=a
  ·subst e
   rw[List.filterMap_cons_some h1,List.filterMap_cons_none h0]
   have:l.filterMap g=l.filterMap f:=jU fun y hy=>hg y (List.mem_cons_of_mem _ hy) fun z=>zW.1 (z▸hy)
   rw[this]
  ·have ih:=B1 h0 h1 zW.2 ((List.mem_cons.mp h).resolve_left fun z=>e z.symm) fun y hy=>hg y (List.mem_cons_of_mem _ hy)
   have hx:=hg x (List.mem_cons_self ..) e
   cases hf:f x with
   |none=>rw[List.filterMap_cons_none (hx.trans hf),List.filterMap_cons_none hf];exact ih
   |some y=>rw[List.filterMap_cons_some (hx.trans hf),List.filterMap_cons_some hf];exact(ih.cons y).trans (List.Perm.swap ..)
theorem qh{m:Nat}{o:Array (Option Nat)}{b:Nat}:∀(n fuel k:Nat),n<fuel→(o.getD (iK m b (k+n)).1 (some 0)).isNone=true→∃j,layClean.free m o fuel (iK m b k).1 (iK m b k).2=some j∧(o.getD j (some 0)).isNone=true
 |n,0,k,h,_=>absurd h (by omega)
 |n,fuel+1,k,h,he=>by
  unfold layClean.free
  cases hf:(List.range (runEnd m (iK m b k).1+1 - (iK m b k).1)).find? fun q=>(o.getD ((iK m b k).1+q) (some 0)).isNone with
  |some q=>exact⟨_,rfl,List.find?_some (p:=fun q=>(o.getD ((iK m b k).1+q) (some 0)).isNone) hf⟩
  |none=>
   cases n with
   |zero=>
    have:=List.find?_eq_none.mp hf 0 (List.mem_range.mpr (by unfold runEnd;split<;>omega))
    rw[Nat.add_zero] at this he
    exact absurd he this
   |succ n=>
    exact qh n fuel (k+1) (by omega) (by rw[Nat.add_right_comm];exact he)
theorem wN{o:Array (Option Nat)}{j:Nat}(h:(o.getD j (some 0)).isNone=true):j<o.size∧o[j]? =some none:=by
 rw[Array.getD_eq_getD_getElem?] at h
 cases e:o[j]? with
 |none=>rw[e] at h;cases h
 |some v=>
  rw[e] at h
  cases v with
  |none=>exact⟨(Array.getElem?_eq_some_iff.mp e).1,rfl⟩
  |some v=>cases h
theorem CC{m:Nat}(hm:Et m){o:Array (Option Nat)}{h:Int}{k:Nat}(hs:o.size=m+1)(hp:(vals o (m+1)).Perm (List.range k))(hk:k≤m):
 ∃j,layClean.free m o (turns m) (bits h % (m+1)) (bits h)=some j∧(o.setIfInBounds j (some k)).size=m+1∧(vals (o.setIfInBounds j (some k)) (m+1)).Perm (List.range (k+1)):=by
 obtain⟨j0,QM,Md⟩:∃j,j<m+1∧o.getD j none=none:=by
  apply Classical.byContradiction
  intro rW
  have all:∀l:List Nat,(∀j∈l,j<m+1)→(l.filterMap fun j=>o.getD j none).length=l.length:=by
   intro l
   induction l with
   |nil=>exact fun _=>rfl
   |cons a l ih=>
    intro h
    cases e:o.getD a none with
    |none=>exact absurd ⟨a,h a (List.mem_cons_self ..),e⟩ rW
    |some v=>rw[List.filterMap_cons_some (f:=fun j=>o.getD j none) e,List.length_cons,List.length_cons,ih fun j hj=>h j (List.mem_cons_of_mem _ hj)]
  have h1:=hp.length_eq
  rw[vals,all _ fun j hj=>List.mem_range.mp hj,List.length_range,List.length_range] at h1
  omega
 have QB:(o.getD j0 (some 0)).isNone=true:=by
  rw[Array.getD_eq_getD_getElem?] at Md⊢
  rw[Array.getElem?_eq_getElem (by omega)] at Md⊢
  rw[Option.getD_some] at Md⊢
  rw[Md]
  rfl
 obtain⟨q,hq,e⟩:=reach hm (yi h) QM
 obtain⟨j,ej,hj⟩:=qh (m:=m) (o:=o) (b:=bits h) q (turns m) 0 (by unfold turns;omega) (by rw[Nat.zero_add,e];exact QB)
 obtain⟨dw,wG⟩:=wN hj
 refine⟨j,ej,by rw[Array.size_setIfInBounds];exact hs,?_⟩
 have hP:=B1 (f:=fun i=>o.getD i none) (g:=fun i=>(o.setIfInBounds j (some k)).getD i none) (a:=j) (b:=k) (by
  show o.getD j none=none
  rw[Array.getD_eq_getD_getElem?,wG]
  rfl) (by
  show (o.setIfInBounds j (some k)).getD j none=some k
  rw[Array.getD_eq_getD_getElem?,Array.getElem?_setIfInBounds_self_of_lt dw]
  rfl) (l:=List.range (m+1)) List.nodup_range (List.mem_range.mpr (by omega)) fun x _ hx=>by
  show (o.setIfInBounds j (some k)).getD x none=o.getD x none
  rw[Array.getD_eq_getD_getElem?,Array.getD_eq_getD_getElem?,Array.getElem?_setIfInBounds_ne (fun z=>hx z.symm)]
 refine hP.trans ((hp.cons k).trans ?_)
 rw[List.range_succ (n:=k)]
 exact List.perm_append_comm (l₁:=[k])
theorem yG{m:Nat}(hm:Et m):∀(hs:List Int) (o:Array (Option Nat)) (k:Nat),o.size=m+1→(vals o (m+1)).Perm (List.range k)→k+hs.length≤m→
 ∃o',(hs.foldl (init:=some (o,k)) fun acc h=>do
  let (owner,k)←acc
  let j←layClean.free m owner (turns m) (bits h % (m+1)) (bits h)
  pure (owner.setIfInBounds j (some k),k+1))=some (o',k+hs.length)∧(vals o' (m+1)).Perm (List.range (k+hs.length))
 |[],o,k,h1,h2,h3=>⟨o,rfl,h2⟩
 |h::hs,o,k,h1,h2,h3=>by
  rw[List.length_cons] at h3
  obtain⟨j,ej,e1,e2⟩:=CC hm (h:=h) h1 h2 (by omega)
  obtain⟨o',e3,e4⟩:=yG hm hs _ (k+1) e1 e2 (by omega)
  rw[List.length_cons,show k+(hs.length+1)=k+1+hs.length by omega]
  refine⟨o',?_,e4⟩
  rw[List.foldl_cons,←e3]
  congr 1
  show (layClean.free m o (turns m) (bits h % (m+1)) (bits h)>>=_)=_
  rw[ej]
  rfl
theorem xT(m:Nat):vals (Array.replicate (m+1) none) (m+1)=[]:=by
 unfold vals
 refine List.filterMap_eq_nil_iff.mpr fun j hj=>?_
 rw[Array.getD_eq_getD_getElem?,Array.getElem?_replicate]
 split<;>rfl
theorem Fj{m f mv:Nat}{led pl:Bool}(hm:Et m){hs:Array Int}(hl:hs.size≤m):
 ∃t order,laid m f mv led pl hs=some (t,order)∧t.mask=m∧t.dummies= #[]∧t.place.size=hs.size∧order.toList.Perm (List.range hs.size)∧t.plain=pl∧t.led=led∧t.place.toList.Pairwise (· < ·):=by
 obtain⟨o,e1,e2⟩:=yG hm hs.toList (Array.replicate (m+1) none) 0 (by simp) (by rw[xT];exact .refl _) (by rw[Nat.zero_add,Array.length_toList];exact hl)
 rw[Nat.zero_add,Array.length_toList] at e1 e2
 have e3:layClean m hs=some o:=by
  unfold layClean
  rw[←Array.foldl_toList,e1]
  rfl
 have e4:((List.range (m+1)).filterMap fun j=>(o.getD j none).map (j,·)).map (·.2)=vals o (m+1):=by
  unfold vals
  rw[List.map_filterMap]
  refine jU fun j _=>?_
  cases o.getD j none<;>rfl
 refine⟨_,_,by unfold laid;rw[e3];rfl,rfl,rfl,?_,?_,rfl,rfl,?_⟩
 ·show ((((List.range (m+1)).filterMap fun j=>(o.getD j none).map (j,·)).map (·.1)).toArray).size=_
  rw[List.size_toArray,List.length_map,←List.length_map (f:=(·.2)),e4,e2.length_eq,List.length_range]
 ·show ((((List.range (m+1)).filterMap fun j=>(o.getD j none).map (j,·)).map (·.2)).toArray).toList.Perm _
  rw[e4]
  exact e2
 ·show ((((List.range (m+1)).filterMap fun j=>(o.getD j none).map (j,·)).map (·.1)).toArray).toList.Pairwise (· < ·)
  have:∀l:List Nat,((l.filterMap fun j=>(o.getD j none).map (j,·)).map (·.1)).Sublist l:=by
   intro l
   induction l with
   |nil=>exact .slnil
   |cons a l ih=>
    cases e:o.getD a none with
    |none=>rw[List.filterMap_cons_none (f:=fun j=>(o.getD j none).map (j,·)) (by show (o.getD a none).map (a,·)=none;rw[e];rfl)];exact ih.cons a
    |some v=>rw[List.filterMap_cons_some (f:=fun j=>(o.getD j none).map (j,·)) (b:=(a,v)) (by show (o.getD a none).map (a,·)=some (a,v);rw[e];rfl)];exact ih.cons₂ a
  exact List.Pairwise.sublist (this _) List.pairwise_lt_range
theorem m_{xs:Array Nat}(hs:xs.toList.Pairwise (· < ·)){j:Nat}:∀(fuel lo hi:Nat),lo≤hi→hi≤xs.size→hi - lo≤fuel→(∀i (h:i<xs.size),i<lo→xs[i]<j)→(∀i (h:i<xs.size),hi≤i→j≤xs[i])→
 below.go xs j fuel lo hi≤xs.size∧(∀i (h:i<xs.size),i<below.go xs j fuel lo hi→xs[i]<j)∧∀i (h:i<xs.size),below.go xs j fuel lo hi≤i→j≤xs[i]
 |0,lo,hi,h1,h2,h3,h4,h5=>by
  have:lo=hi:=by omega
  subst this
  exact⟨h2,h4,h5⟩
 |fuel+1,lo,hi,h1,h2,h3,h4,h5=>by
  have mono:∀i k (hk:k<xs.size) (h:i<k),xs[i]'(by omega)<xs[k]:=fun i k hk h=>by
   have:=List.pairwise_iff_getElem.mp hs i k (by simpa using (by omega:i<xs.size)) (by simpa using hk) h
   simpa using this
  unfold below.go
  by_cases dw:lo<hi
  ·rw[if_pos dw]
   dsimp only
   have hm:(lo+hi) / 2<xs.size:=by omega
   have hg:xs.getD ((lo+hi) / 2) j=xs[(lo+hi) / 2]:=by rw[Array.getD_eq_getD_getElem?,Array.getElem?_eq_getElem hm];rfl
   rw[hg]
   by_cases hc:xs[(lo+hi) / 2]<j
   ·rw[if_pos hc]
    refine m_ hs fuel _ hi (by omega) h2 (by omega) (fun i h tU=>?_) h5
    by_cases e:i=(lo+hi) / 2
    ·subst e;exact hc
    ·exact Nat.lt_trans (mono i _ hm (by omega)) hc
   ·rw[if_neg hc]
    refine m_ hs fuel lo _ (by omega) (by omega) (by omega) h4 fun i h tU=>?_
    by_cases e:i=(lo+hi) / 2
    ·subst e;omega
    ·have:=mono _ i h (by omega:(lo+hi) / 2<i)
     omega
  ·rw[if_neg dw]
   have:lo=hi:=by omega
   subst this
   exact⟨h2,h4,h5⟩
theorem ng{xs:Array Nat}(hs:xs.toList.Pairwise (· < ·))(j:Nat):below xs j≤xs.size∧(∀i (h:i<xs.size),i<below xs j→xs[i]<j)∧∀i (h:i<xs.size),below xs j≤i→j≤xs[i]:=
 m_ hs xs.size 0 xs.size (Nat.zero_le _) (Nat.le_refl _) (by omega) (fun i h hi=>absurd hi (by omega)) fun i h hi=>absurd h (by omega)
theorem DN{t:SetTable}{j:Nat}(hs:t.place.toList.Pairwise (· < ·))(h:t.slot j= .empty):(insertAt t.place (below t.place j) j).toList.Pairwise (· < ·):=by
 obtain⟨h1,h2,h3⟩:=ng hs j
 have gR:t.place[below t.place j]? ≠some j:=fun z=>by
  unfold slot at h
  dsimp only at h
  rw[z,beq_self_eq_true] at h
  cases h
 rw[toList_insertAt]
 have rX:=hs
 rw[←List.take_append_drop (below t.place j) t.place.toList,List.pairwise_append] at rX
 obtain⟨q1,q2,q3⟩:=rX
 have lo:∀a∈t.place.toList.take (below t.place j),a<j:=fun a ha=>by
  obtain⟨i,hi,e⟩:=List.mem_take_iff_getElem.mp ha
  have tU:i<t.place.size:=by simp at hi;omega
  have:=h2 i tU (by omega)
  rw[←e]
  simpa using this
 have hi:∀a∈t.place.toList.drop (below t.place j),j<a:=fun a ha=>by
  obtain⟨i,hi,e⟩:=List.mem_drop_iff_getElem.mp ha
  have tU:below t.place j+i<t.place.size:=by
   have:i+below t.place j<t.place.size:=by simpa using hi
   omega
  have:=h3 _ tU (by omega)
  have e':t.place[below t.place j+i]=a:=by simpa using e
  rw[e'] at this
  refine Nat.lt_of_le_of_ne this fun z=>?_
  subst z
  by_cases i0:i=0
  ·subst i0
   refine gR ?_
   rw[Array.getElem?_eq_getElem (by simpa using tU)]
   exact congrArg some (by simpa using e')
  ·have h0:below t.place j<t.place.size:=by omega
   have m1:=h3 _ h0 (Nat.le_refl _)
   have m2:=List.pairwise_iff_getElem.mp hs (below t.place j) (below t.place j+i) (by simpa using h0) (by simpa using tU) (by omega)
   have m2:t.place[below t.place j]<t.place[below t.place j+i]:=by simpa using m2
   omega
 refine List.pairwise_append.mpr ⟨q1,List.pairwise_cons.mpr ⟨hi,q2⟩,fun a ha b hb=>?_⟩
 rcases List.mem_cons.mp hb with rfl | hb
 ·exact lo a ha
 ·exact q3 a ha b hb
def slotAt(xs:Array Nat):Nat→Nat
 |0=>0
 |k+1=>xs.getD k 0+1
theorem below_at{xs:Array Nat}(hs:xs.toList.Pairwise (· < ·)):∀{k:Nat},k≤xs.size→below xs (slotAt xs k)=k
 |0,_=>by
  obtain⟨h1,h2,_⟩:=ng hs 0
  show below xs 0=0
  cases e:below xs 0 with
  |zero=>rfl
  |succ p=>
   rw[e] at h1 h2
   exact absurd (h2 0 (by omega) (by omega)) (by omega)
 |k+1,hk=>by
  have hg:xs.getD k 0=xs[k]:=by rw[Array.getD_eq_getD_getElem?,Array.getElem?_eq_getElem (by omega)];rfl
  show below xs (xs.getD k 0+1)=k+1
  rw[hg]
  obtain⟨h1,h2,h3⟩:=ng hs (xs[k]+1)
  have a1:¬below xs (xs[k]+1)≤k:=fun z=>by have:=h3 k (by omega) z;omega
  have a2:¬k+1<below xs (xs[k]+1):=fun z=>by
   have dw:k+1<xs.size:=by omega
   have m1:=h2 (k+1) dw z
   have m2:=List.pairwise_iff_getElem.mp hs k (k+1) (by simpa using (by omega:k<xs.size)) (by simpa using dw) (by omega)
   have m2:xs[k]<xs[k+1]:=by simpa using m2
   omega
  omega
structure TabOk (t:SetTable) (n:Nat) (ld:Bool):Prop where
 RY:Et t.mask
 size:t.place.size=n
 dum:t.dummies= #[]
 room:5*n<3*t.mask
 plain:t.plain=true
 led:t.led=ld
 rise:t.place.toList.Pairwise (· < ·)
theorem TabOk.fits{t:SetTable}{n:Nat}{ld:Bool}(h:TabOk t n ld):t.fits n=true:=by
 unfold SetTable.fits fill
 rw[h.dum,h.size]
 have:=h.room
 simp
 omega
def SetH(ld:Bool)(h:Heap)(a:Addr)(xs:List (Int×Value)):Prop:=∃o es ep t,h.get? a=some o∧o.ExactSet∧o.data= .set es ep t∧es.toList.Perm xs∧TabOk t es.size ld
theorem jt{α:Type}(xs:Array α)(p:Nat)(x:α):(insertAt xs p x).size=xs.size+1:=by
 have:=(insertAt_perm xs p x).length_eq
 simpa using this
section
variable{prog:Program}{w:World}{A:Around}{E:Value→Shared→Prop}{s:Shared}
theorem jY{ks:List Int}{b:Addr}{Q:Bool→Shared→Prop}(hk:IsTupleKey (intKind prog w) s.heap ks b)(h:Q true s):wpAny (model prog w) A (hashByValue 8 (.ref b)) Q E s:=by
 have hT:=hk.typeIs
 obtain⟨o,items,n,ho,_,hd,hi⟩:=hk
 unfold hashByValue
 refine wpAny_bind (wpAny_specialOf hT F.slot_tuple_hash.lookup ?_)
 dsimp only
 refine wpAny_bind (wpAny_seqItems ho hd ?_)
 refine wpAny_bind ?_
 show wpAny _ _ (forIn items _ _) _ _ s
 rw[←Array.forIn_toList]
 refine wpAny_forIn_list _ (fun rest r s'=>r.1=none∧s'=s∧∃ks',ItemsAre (intKind prog w) ks' rest) _ ?_ ?_ _ _ ⟨rfl,rfl,ks,hi⟩
 ·rintro v rest r s' ⟨hr,rfl,ks',hl⟩
  cases hl with
  | @cons k v Ru vs h1 h2=>
    have hv:hashByValue 7 v=pure true:=by
     cases v<;>first | rfl | (exact absurd h1 (by simp[intKind,Value.isInt]))
    rw[hv]
    refine wpAny_bind (wpAny_pure ?_)
    simp only[Bool.not_true,Bool.false_eq_true,if_false]
    exact wpAny_pure ⟨rfl,rfl,_,h2⟩
 ·rintro⟨r1,r2⟩ s' ⟨hr,rfl,_⟩
  simp only at hr
  subst hr
  exact wpAny_pure h
theorem pW{a b:Addr}{hk:Int}{o:Obj}{es:Array (Int×Value)}{ep:Nat}{t:SetTable}{Q:SetFound→Shared→Prop}(ho:s.heap.get? a=some o)(hd:o.data= .set es ep t){ld:Bool}(ht:TabOk t es.size ld)(wI:∀e∈es.toList,e.1≠hk)
 (h:∀j,t.slot j= .empty→Q (.free j false) s):wpAny (model prog w) A (setSearch a (.ref b) hk true) Q E s:=by
 have hf:=ht.fits
 obtain⟨hm,k8,Ng,h5,_,_,_⟩:=ht
 have QJ:t.gaveWay=false:=by
  unfold SetTable.gaveWay
  rcases hm with e | e | e<;>rw[e]<;>rfl
 obtain⟨j,ej,hj⟩:=xB (t:=t) (hashAt:=fun i=>(es[i]?.map (·.1)).getD 0) (h:=hk) hm Ng (by omega) fun i hi=>by
  rw[Array.getElem?_eq_getElem (by omega)]
  refine beq_eq_false_iff_ne.mpr fun z=>wI (es[i]'(by omega)) (by rw[←Array.getElem_toList];exact List.getElem_mem _) z
 unfold setSearch setSearchFrom
 refine wpAny_bind (wpAny_setState_of ho hd hf ?_)
 dsimp only
 rw[QJ]
 simp only[Bool.false_eq_true,↓reduceIte]
 refine wpAny_bind (wpAny_pure ?_)
 split
 ·rename_i met heq
  have e:met= .empty j none:=Option.some.inj (heq.symm.trans ej)
  subst e
  exact wpAny_pure (h j hj)
 ·rename_i rW
  exact absurd ej (rW _)
theorem vz{a:Addr}{o:Obj}{es:Array (Int×Value)}{ep n:Nat}{t:SetTable}{Q:Unit→Shared→Prop}(ho:s.heap.get? a=some o)(hex:o.ExactSet)(hd:o.data= .set es ep t)(hf:t.fits es.size=true)(NH:t.plain=true)(hm:Et (sizeAbove n - 1))(h5:5*es.size<3*(sizeAbove n - 1))
 (h:∀h',Heap.SameBut a s.heap h'→SetH t.led h' a es.toList→Q () {s with heap:=h'}):wpAny (model prog w) A (setRelay a n) Q E s:=by
 obtain⟨t',order,e1,e2,e3,e4,e5,e6,e7,e8⟩:=Fj (m:=sizeAbove n - 1) (f:=t.finger) (mv:=t.movedTo (sizeAbove n - 1)) (led:=t.led) (pl:=t.plain) hm (hs:=es.map (·.1)) (by rw[Array.size_map];omega)
 rw[Array.size_map] at e4 e5
 have yw:(order.filterMap (es[·]?)).toList.Perm es.toList:=by
  rw[Array.toList_filterMap]
  have:=e5.filterMap (fun i=>es[i]?)
  rwa [filterMap_getElem?_range] at this
 have hsz:(order.filterMap (es[·]?)).size=es.size:=by rw[←Array.length_toList,yw.length_eq,Array.length_toList]
 have Qw:sizeAbove n≤128:=by rcases hm with e | e | e<;>omega
 unfold setRelay
 refine wpAny_bind (wpAny_setState_of ho hd hf ?_)
 dsimp only
 rw[if_neg (by rw[sizeLine_eq];omega)]
 have hr:t.relaid (es.map (·.1)) n=some (t',order):=e1
 rw[hr]
 refine wpAny_bind (wpAny_of_eq (a:=(order.filterMap (es[·]?),t')) ?_ ?_)
 ·show (if ((order.filterMap (es[·]?)).size !=es.size)=true then(do (unsupported "internal:set-table-lost-an-element":Sem PUnit);pure (order.filterMap (es[·]?),t')) else pure (order.filterMap (es[·]?),t'))=_
  rw[hsz,bne_self_eq_false]
  rfl
 ·dsimp only
  refine wpAny_storeSet_of ho hd (h _ (Heap.SameBut.update ..) ?_) (by rw[hsz,sizeLine_eq];rcases hm with e | e | e<;>omega)
  have hg:(s.heap.update a (Obj.putSet (order.filterMap (es[·]?)) t')).get? a=some {o with data:= .set (order.filterMap (es[·]?)) (ep+1) t'}:=by
   have:=Heap.get?_update_self (Obj.putSet (order.filterMap (es[·]?)) t') ho (by rw[putSet_of _ t' hd];rfl)
   rw[putSet_of _ t' hd] at this;exact this
  exact⟨_,_,ep+1,t',hg,hex,rfl,yw,by rw[e2];exact hm,by rw[hsz];exact e4,e3,by rw[hsz,e2];exact h5,e6.trans NH,e7,e8⟩
theorem EE:sizeAbove (grown 5)=32:=by decide
theorem Br:sizeAbove (grown 19)=128:=by decide
theorem kG{a b:Addr}{ks:List Int}{hk:Int}{ld:Bool}{xs:List (Int×Value)}{Q:Bool→Shared→Prop}(zU:IsTupleKey (intKind prog w) s.heap ks b)(hS:SetH ld s.heap a xs)(wI:hk∉xs.map (·.1))(hl:xs.length<64)
 (h:∀h',Heap.SameBut a s.heap h'→SetH ld h' a (xs++[(hk, .ref b)])→Q true {s with heap:=h'}):wpAny (model prog w) A (setAddHashed a (.ref b) hk) Q E s:=by
 obtain⟨o,es,ep,t,ho,hex,hd,hp,ht⟩:=hS
 have hf:=ht.fits
 have hsz:es.size=xs.length:=by rw[←Array.length_toList,hp.length_eq]
 unfold setAddHashed setAddHashedIn
 refine wpAny_holding (wpAny_bind (wpAny_setState_of ho hd hf ?_))
 dsimp only
 have Qx:byScan (.ref b) es=false:=rfl
 rw[Qx]
 simp only[Bool.false_eq_true,↓reduceIte]
 refine wpAny_bind (pW ho hd ht (fun e he z=>wI (List.mem_map.mpr ⟨e,hp.mem_iff.mp he,z⟩)) fun j HK=>?_)
 obtain⟨hm,k8,Ng,h5,NH,E4,Q7⟩:=ht
 dsimp only
 refine wpAny_bind (wpAny_setState_of ho hd hf ?_)
 dsimp only
 have H0:(t.put j).1.mask=t.mask∧(t.put j).1.place.size=es.size+1∧(t.put j).1.dummies= #[]∧(t.put j).1.plain=true∧(t.put j).1.led=ld∧(t.put j).1.place.toList.Pairwise (· < ·):=by
  refine⟨rfl,?_,?_,NH,E4,DN Q7 HK⟩
  ·show (insertAt t.place (below t.place j) j).size=_
   rw[jt,k8]
  ·show (if has t.dummies j then eraseAt t.dummies (below t.dummies j) else t.dummies)= #[]
   rw[Ng]
   rfl
 have fin:wpAny (model prog w) A (do
  storeSet a (insertAt es (t.put j).2 (hk, .ref b)) (t.put j).1
  if (!false&&(t.put j).1.tooFull)=true then do
      setRelay a (grown (es.size+1))
      pure true
   else pure true) Q E s:=by
  obtain⟨q1,q2,q3,q4,q5,q6⟩:=H0
  generalize (t.put j).1=t1 at q1 q2 q3 q4 q5 q6
  have K0:=jt es (t.put j).2 (hk,Value.ref b)
  have NF:(insertAt es (t.put j).2 (hk,Value.ref b)).toList.Perm (xs++[(hk, .ref b)]):=by
   refine(insertAt_perm es _ _).trans ?_
   rw[Array.toList_push]
   exact hp.append_right _
  generalize insertAt es (t.put j).2 (hk,Value.ref b)=GL at K0 NF
  have hg:(s.heap.update a (Obj.putSet GL t1)).get? a=some {o with data:= .set GL (ep+1) t1}:=by
   have:=Heap.get?_update_self (Obj.putSet GL t1) ho (by rw[putSet_of _ t1 hd];rfl)
   rw[putSet_of _ t1 hd] at this;exact this
  have Bm:=Heap.SameBut.update s.heap a (Obj.putSet GL t1)
  have RS:t.mask≤127:=by rcases hm with e | e | e<;>omega
  refine wpAny_bind (wpAny_storeSet_of ho hd ?_ (by rw[sizeLine_eq];omega))
  have Cb:t1.fill=es.size+1:=by unfold fill;rw[q2,q3];rfl
  by_cases gQ:t1.tooFull=true
  ·rw[gQ]
   simp only[Bool.not_false,Bool.and_self,↓reduceIte]
   unfold tooFull at gQ
   rw[Cb,q1] at gQ
   have gQ:t.mask*3≤(es.size+1)*5:=of_decide_eq_true gQ
   have HM:t1.fits GL.size=true:=by
    unfold SetTable.fits
    rw[Cb,q2,q1,K0]
    simp
    omega
   have hr:Et (sizeAbove (grown (es.size+1)) - 1)∧5*GL.size<3*(sizeAbove (grown (es.size+1)) - 1):=by
    rw[K0]
    rcases hm with e | e | e
    ·have:es.size=4:=by omega
     rw[this,EE]
     exact⟨.inr (.inl rfl),by decide⟩
    ·have:es.size=18:=by omega
     rw[this,Br]
     exact⟨.inr (.inr rfl),by decide⟩
    ·omega
   refine wpAny_bind (vz (o:={o with data:= .set GL (ep+1) t1}) hg hex rfl HM q4 hr.1 hr.2 fun h' rX zO=>wpAny_pure (h h' (Bm.trans rX) ?_))
   obtain⟨o2,Qa,P8,t2,k1,k2,k3,k4,k5⟩:=zO
   exact⟨o2,Qa,P8,t2,k1,k2,k3,k4.trans NF,q5▸k5⟩
  ·have gQ:t1.tooFull=false:=by simpa using gQ
   rw[gQ]
   simp only[Bool.not_false,Bool.and_false,Bool.false_eq_true,↓reduceIte]
   unfold tooFull at gQ
   rw[Cb,q1] at gQ
   have gQ:¬t.mask*3≤(es.size+1)*5:=of_decide_eq_false gQ
   exact wpAny_pure (h _ Bm ⟨_,GL,ep+1,t1,hg,hex,rfl,NF,by rw[q1];exact hm,by rw[q2,K0],q3,by rw[K0,q1];omega,q4,q5,q6⟩)
 split
 ·refine wpAny_bind (jY zU ?_)
  exact fin
 ·refine wpAny_bind (wpAny_pure ?_)
  exact fin
end
theorem SetH.at{ld:Bool}{h h':Heap}{a:Addr}{xs:List (Int×Value)}(x:SetH ld h a xs)(e:∀o,h.get? a=some o→h'.get? a=some o):SetH ld h' a xs:=
 let ⟨o,es,ep,t,ho,r⟩:=x
 ⟨o,es,ep,t,e o ho,r⟩
theorem lS{prog:Program}{w:World}{h h':Heap}{ks:List Int}{b:Addr}(x:IsTupleKey (intKind prog w) h ks b)(e:∀o,h.get? b=some o→h'.get? b=some o):IsTupleKey (intKind prog w) h' ks b:=
 let ⟨o,items,n,ho,r⟩:=x
 ⟨o,items,n,e o ho,r⟩
section
variable{prog:Program}{w:World}{A:Around}{R:Result→Shared→Prop}{I:Addr}{fp wr:List Addr}{G:Array GenState→Array GenState→Prop}{n:Nat}{P:Nat→Value→Prop}{St:Nat→Shared→Prop}{ld:Bool}
def Aa(prog:Program)(w:World)(ks:Nat→List Int)(ad:Nat→Addr)(i:Nat):List (Int×Value):=(List.range i).map fun j=>(tupleKeyHash (intKind prog w) (ks j), .ref (ad j))
theorem D0(W:WalksS prog w A.in1 I fp wr G n P St)(S:Addr)(EZ:S∉fp)(ks:Nat→List Int)(ad:Nat→Addr)(H_:∀i v,P i v→v= .ref (ad i))(gR:∀i,i<n→ad i≠S∧ad i∉wr)(hu:A.in1.units<cLine)(hn:n≤64)
 (Bj:((List.range n).map fun i=>tupleKeyHash (intKind prog w) (ks i)).Nodup):∀(k i:Nat) (s:Shared),n - i=k→i≤n→St i s→(∀j,j<n→IsTupleKey (intKind prog w) s.heap (ks j) (ad j))→SetH ld s.heap S (Aa prog w ks ad i)→
  (∀s',Moved (S::wr) G s s'→SetH ld s'.heap S (Aa prog w ks ad n)→R (.ok (.ret .none)) s')→codeAny (model prog w) A (.builtin "set.update.loop" ⟨[.ref S, .ref I],[]⟩) R s:=by
 have Ko:S∉wr:=fun h=>EZ (W.sub _ h)
 have rY:∀b∈wr,b∈S::wr:=fun b hb=>List.mem_cons_of_mem _ hb
 intro k
 induction k with
 |zero=>
  intro i s hk hi pN hT hS hR
  obtain rfl:i=n:=by omega
  refine codeAny_builtin PyProof.Rows.F.entry_set_update_loop ?_
  rw[Around.under_plainId PyProof.Rows.F.plain_set_update_loop _]
  show wpAny _ A.in1 (pyNext (.ref I)>>=_) _ _ s
  refine wpAny_bind (W.done s _ _ pN fun s' hm=>?_)
  show wpAny _ A.in1 (ret Value.none) _ _ s'
  exact wpAny_pure (hR s' (hm.mono rY) (hS.at fun o e=>hm.heap S o Ko e))
 |succ k ih=>
  intro i s hk hi pN hT hS hR
  have dw:i<n:=by omega
  refine codeAny_builtin PyProof.Rows.F.entry_set_update_loop ?_
  rw[Around.under_plainId PyProof.Rows.F.plain_set_update_loop _]
  show wpAny _ A.in1 (pyNext (.ref I)>>=_) _ _ s
  refine wpAny_bind (W.item i s _ _ dw pN fun v s' hP H9 hm=>?_)
  have ev:=H_ i v hP
  subst ev
  have zO:SetH ld s'.heap S (Aa prog w ks ad i):=hS.at fun o e=>hm.heap S o Ko e
  have M4:∀j,j<n→IsTupleKey (intKind prog w) s'.heap (ks j) (ad j):=fun j hj=>lS (hT j hj) fun o e=>hm.heap _ o (gR j hj).2 e
  show wpAny _ A.in1 (holding [Value.ref (ad i)] (setAdd S (.ref (ad i)))>>=_) _ _ s'
  refine wpAny_bind (wpAny_holding ?_)
  unfold setAdd
  refine wpAny_holding (wpAny_bind (wpAny_pyHash_tuple hu (M4 i dw) ?_))
  refine kG (s:={s' with toks:=s'.toks+((ks i).length+1)}) (M4 i dw) zO (fun qi=>?_) (by unfold Aa;rw[List.length_map,List.length_range];omega) fun h' Bm Mb=>?_
  ·unfold Aa at qi
   rw[List.map_map] at qi
   obtain⟨j,hj,e⟩:=List.mem_map.mp qi
   have hj:=List.mem_range.mp hj
   have h1:((List.range n).map fun i=>tupleKeyHash (intKind prog w) (ks i))[j]? =some (tupleKeyHash (intKind prog w) (ks j)):=by rw[List.getElem?_map,List.getElem?_range (by omega)];rfl
   have h2:((List.range n).map fun i=>tupleKeyHash (intKind prog w) (ks i))[i]? =some (tupleKeyHash (intKind prog w) (ks j)):=by rw[List.getElem?_map,List.getElem?_range dw];exact congrArg some (show _=_ from e).symm
   have:=(List.getElem?_inj (i:=j) (j:=i) (by simp;omega) Bj).mp (h1.trans h2.symm)
   omega
  have M3:SetH ld h' S (Aa prog w ks ad (i+1)):=by
   unfold Aa at Mb⊢
   rw[List.range_succ,List.map_append]
   exact Mb
  have JW:∀b o,b≠S→s'.heap.get? b=some o→h'.get? b=some o:=fun b o hb e=>(Bm.2 b hb).trans e
  refine wpAny_pure ⟨plainId_quiet PyProof.Rows.F.plain_set_update_loop _,ih (i+1) _ (by omega) dw (W.frame _ s' _ _ H9 (Nat.le_add_right ..) fun b hb o e=>JW b o (fun z=>EZ (z▸hb)) e) (fun j hj=>lS (M4 j hj) fun o e=>JW _ o (gR j hj).1 e) M3 fun Jx HR HD=>?_⟩
  exact hR Jx (Moved.trans W.gtrans ((hm.mono rY).then_heap (Nat.le_add_right ..) fun b o hb e=>JW b o (fun z=>hb (z▸List.mem_cons_self ..)) e) HR) HD
end
def jC(w:World):Bool:=!w.params.followText "set-order"
section
variable{prog:Program}{w:World}{A:Around}{E:Value→Shared→Prop}{s:Shared}
theorem mB(a:Value){Q₁:Value→Shared→Prop}(h:Q₁ (.ref s.heap.objs.size) {s with heap:=s.heap.push {cls:= .type "set",dict:=none,data:= .set #[] 0 (.fresh 0 0 (jC w))} }):
 codeAny (model prog w) A (.call (.builtin "set.__new__") ⟨[.type "set",a],[]⟩) (wants Q₁ E) s:=by
 refine codeAny_of_tree (show wpAny _ A.in1 (do checkBuiltinCall "set.__new__" ⟨[.type "set",a],[]⟩;again (.builtin "set.__new__" ⟨[.type "set",a],[]⟩)) _ _ s from ?_)
 refine wpAny_bind (wpAny_of_eq (F.newCall_set_1 a) (wpAny_pure ⟨plainId_quiet F.plain_set_new _,codeAny_builtin F.entry_set_new ?_⟩))
 rw[Around.under_plainId F.plain_set_new _]
 unfold Builtin.«set.__new__» Builtin.Frozenset.newClass
 have rY:=sub_set_self
 obtain⟨hp,g,d,tk,os⟩:=s
 dsimp only
 wp_walk
 refine wpAny_askSetting (wpAny_pure ?_)
 simp only[newObj]
 exact wpAny_bind (wpAny_alloc (wpAny_pure (wpAny_pure h)))
end
section
variable{prog:Program}{w:World}{A:Around}{E:Value→Shared→Prop}{s:Shared}
set_option maxHeartbeats 3200000 in
theorem pF{l:Addr}{items:Array Value}{ks:Nat→List Int}{ad:Nat→Addr}{Q:Value→Shared→Prop}(hh:A.handled=none)(hu:A.units+8<cLine)(hl:s.heap.IsList l items)(hi:∀i,i<items.size→items[i]? =some (.ref (ad i)))
 (hT:∀j,j<items.size→IsTupleKey (intKind prog w) s.heap (ks j) (ad j))(hn:items.size≤64)(Bj:((List.range items.size).map fun i=>tupleKeyHash (intKind prog w) (ks i)).Nodup)
 (h:∀(h':Heap) (tk:Nat),SetH (jC w) h' s.heap.objs.size (Aa prog w ks ad items.size)→(∀b o,b<s.heap.objs.size→s.heap.get? b=some o→h'.get? b=some o)→Q (.ref s.heap.objs.size) {s with heap:=h',toks:=tk}):
 wpAny (model prog w) A (call (.type "set") [.ref l]) Q E s:=by
 obtain⟨c,tl,Nx⟩:=F.called_set.mro
 have KN:=F.called_set.made
 have rY:=F.called_set.sub
 refine wpAny_call (codeAny_of_tree ?_)
 show wpAny _ _ (callAny (.type "set") _) _ _ _
 refine wpAny_pure ⟨Code.quiet_builtin _ (by decide+kernel),codeAny_builtin F.entry_type_call ?_⟩
 rw[Around.under_plain (weight_type_call_type "set" [.ref l] []) rfl]
 have h1:=F.called_set.notType
 have h2:=F.called_set.canCreate
 have Qz:=F.typeCall_set_1 (.ref l)
 repeat (any_goals (first | assumption | wp_step))
 refine codeAny_mono (mB (.ref l) (E:=E) (Q₁:=fun obj s₁=>∃led:Bool,led=jC w∧obj= .ref s.heap.objs.size∧s₁={s with heap:=s.heap.push {cls:= .type "set",dict:=none,data:= .set #[] 0 (.fresh 0 0 led)} }) ⟨_,rfl,rfl,rfl⟩) fun r s₁ hr=>?_
 cases r with
 |error e=>exact hr
 |ok fl=>
  cases fl with
  |ret obj=>
   obtain⟨led,E4,rfl,rfl⟩:=hr
   have hS:(s.heap.push {cls:= .type "set",dict:=none,data:= .set #[] 0 (.fresh 0 0 led)}).get? s.heap.objs.size=some {cls:= .type "set",dict:=none,data:= .set #[] 0 (.fresh 0 0 led)}:=Heap.get?_push_size _ rfl
   have M5:Shared.TypeIs {s with heap:=s.heap.push {cls:= .type "set",dict:=none,data:= .set #[] 0 (.fresh 0 0 led)} } (.ref s.heap.objs.size) "set":=⟨_,hS,rfl⟩
   have QV:=F.called_set.init.lookup
   have Na:=F.called_set.init.bind (.ref s.heap.objs.size)
   repeat (any_goals (first | assumption | wp_step))
   refine codeAny_mono (codeAny_call_builtin (R:=wants (fun r s₂=>r= .none∧∃h' tk,s₂={s with heap:=h',toks:=tk}∧SetH (jC w) h' s.heap.objs.size (Aa prog w ks ad items.size)∧(∀b o,b<s.heap.objs.size→s.heap.get? b=some o→h'.get? b=some o)) E) F.called_set.init.plain F.entry_set_init (check_set_init_1 M5 ?_)) fun r₂ s₂ H8=>?_
   ·obtain⟨ol,KS,GX,nl,Ky⟩:=hl
    obtain⟨N9,C1,Ln,xn⟩:=ol
    simp only at GX Ky
    subst GX;subst Ky
    have HX:(s.heap.push {cls:= .type "set",dict:=none,data:= .set #[] 0 (.fresh 0 0 led)}).get? l=some {cls:= .type "list",dict:=C1,data:= .seq items nl,slots:=xn}:=Heap.get?_push_of_some _ KS
    have NM:=F.sub_list_set
    have NL:=F.sub_list_frozenset
    have gR:(Value.type "list"==Value.type "dict")=false:=by decide
    have rV:(s.heap.push {cls:= .type "set",dict:=none,data:= .set #[] 0 (.fresh 0 0 led)}).IsList l items:=⟨_,HX,rfl,nl,rfl⟩
    unfold Builtin.«set.__init__» noKeywords Builtin.Frozenset.updateFrom
    generalize MZ:pyIter=PI
    wp_walk
    subst MZ
    refine wpAny_pyIter_list rV (wpAny_bind (wpAny_runValue ?_))
    have KG:l<s.heap.objs.size:=Heap.lt_size KS
    have Nm:A.in1.in1.in1.handled=none:=by simp[hh]
    have HU:l≠(s.heap.push {cls:= .type "set",dict:=none,data:= .set #[] 0 (.fresh 0 0 led)}).objs.size:=by
     rw[Heap.size_push];exact Nat.ne_of_lt (Nat.lt_succ_of_lt KG)
    have EZ:s.heap.objs.size∉[(s.heap.push {cls:= .type "set",dict:=none,data:= .set #[] 0 (.fresh 0 0 led)}).objs.size,l]:=by
     rw[Heap.size_push];simp only[List.mem_cons,List.mem_singleton,List.not_mem_nil,or_false,not_or]
     exact⟨Nat.ne_of_lt (Nat.lt_succ_self _),Nat.ne_of_gt KG⟩
    have M7:∀i,i<items.size→ad i<s.heap.objs.size:=fun i tU=>let ⟨o,_,_,ho,_⟩:=hT i tU;Heap.lt_size ho
    refine D0 (ld:=jC w) ((Walks.list Nm _ l HU items).toS) s.heap.objs.size EZ ks ad (fun i v hv=>?_) (fun i tU=>?_) ?_ hn Bj (items.size - 0) 0 _ (by omega) (Nat.zero_le _) ⟨⟨_,Heap.get?_push_size _ rfl,rfl,rfl⟩,(rV.push _)⟩ (fun j hj=>lS (hT j hj) fun o e=>Heap.get?_push_of_some _ (Heap.get?_push_of_some _ e)) ?hS0 ?hR
    case hS0=>exact⟨_,#[],0,_,Heap.get?_push_of_some _ hS,⟨rfl,rfl,rfl⟩,rfl, .refl _, .inl rfl,rfl,rfl,by show 5*0<3*7;decide,rfl,E4,List.Pairwise.nil⟩
    case hR=>
     intro s' hm zO
     obtain⟨h',g',d',J0,Lr⟩:=s'
     obtain rfl:g'=s.gens:=hm.gens
     obtain rfl:d'=s.drawn:=hm.drawn
     obtain rfl:Lr=s.os:=hm.os
     show wpAny _ _ _ _ _ _
     refine wpAny_pure ?_
     show wpAny _ _ (ret Value.none) _ _ _
     refine wpAny_pure ⟨rfl,h',J0,rfl,zO,fun b o hb e=>?_⟩
     have JS:b≠s.heap.objs.size:=Nat.ne_of_lt hb
     have wD:b≠(s.heap.push {cls:= .type "set",dict:=none,data:= .set #[] 0 (.fresh 0 0 led)}).objs.size:=by
      rw[Heap.size_push];exact Nat.ne_of_lt (Nat.lt_succ_of_lt hb)
     exact hm.heap b o (by simp only[List.mem_cons,List.mem_singleton,List.not_mem_nil,or_false,not_or];exact⟨JS,wD⟩) (Heap.get?_push_of_some _ (Heap.get?_push_of_some _ e))
    ·have dw:i<items.size:=(Array.getElem?_eq_some_iff.mp hv).1
     exact Option.some.inj ((show items[i]? =some v from hv).symm.trans (hi i dw))
    ·have:=M7 i tU
     refine⟨Nat.ne_of_lt this,?_⟩
     rw[Heap.size_push]
     simp only[List.mem_cons,List.mem_singleton,List.not_mem_nil,or_false]
     exact Nat.ne_of_lt (Nat.lt_succ_of_lt this)
    ·show A.units+1+1+1<cLine
     omega
   ·cases r₂ with
    |error e=>exact H8
    |ok MS=>
     cases MS with
     |ret r=>
      obtain⟨rfl,h',tk,rfl,zO,qj⟩:=H8
      repeat (any_goals (first | assumption | wp_step))
      exact h _ _ zO qj
     |_=>exact H8.elim
  |_=>exact hr.elim
end
end L3
namespace L3
open PySem PySem.Spec L2 HT
open PyProof.Rows hiding St
theorem items_int{P:Program}{w:World}:∀{us:List Value}{ns:List Int},IntsAre us ns→ItemsAre (intKind P w) ns us
 |_,_, .nil=> .nil
 |_,_, .cons n t h=> .cons (intKind_is _ _ _ _) (items_int h)
def Bt:V→Addr
 | .ref a=>a
 |_=>0
theorem vk{X:Cx}{pins:List (Addr×Obj)}{σ:St}{H:Hp}{s:Shared}(I:Inv X pins σ H s){vs:List V}{aD:List Value}{ks:List (List Int)}(hr:b9 H vs ks)(rv:Vals vs aD){i:Nat}(hi:i<aD.toArray.size):
 aD.toArray[i]? =some (.ref (Bt (vs.getD i .non)))∧IsTupleKey (intKind X.prog X.w) s.heap (ks.getD i []) (Bt (vs.getD i .non)):=by
 have hl:=rv.length
 have tU:i<aD.length:=by simpa using hi
 obtain⟨a,e1,e2⟩:=kC hr (i:=i) (by omega)
 have r:=gc i rv (by omega)
 rw[e1] at r⊢
 have r:aD.getD i Value.none= .ref a:=r
 refine⟨?_,?_⟩
 ·rw[List.getD_eq_getElem?_getD,List.getElem?_eq_getElem tU,Option.getD_some] at r
  rw[List.getElem?_toArray,List.getElem?_eq_getElem tU,r]
  rfl
 ·obtain⟨us,ru,pt,_⟩:=I.tuple (SqT.of (K:=X.K) e2)
  obtain⟨o,q1,q2,m,q3⟩:=pt
  exact⟨o,us.toArray,m,q1,q2,q3,by simpa using items_int (intsAre_of ru)⟩
section
variable{X:Cx}{Xw:Nat→Hp→Prop}{e:Expr}{δ:DE}{pos eY p p2:Pos}
theorem D3{pins:List (Addr×Obj)}{σ:St}{H:Hp}{s:Shared}{Q:Value→Shared→Prop}{E:Value→Shared→Prop}(I:Inv X pins σ H s)(hc:X.calm=true)(hu:X.A.units+64<cLine){a:Addr}{ws:List V}{ks:List (List Int)}(hl:SqL X.K H a ws)(hr:b9 H ws ks)(hn:ks.length≤64)(Bj:(ks.map dQ).Nodup)
 (h:∀h' tk,SetH (jC X.w) h' s.heap.objs.size (Aa X.prog X.w (fun i=>ks.getD i []) (fun i=>Bt (ws.getD i .non)) ks.length)→(∀b o,s.heap.get? b=some o→h'.get? b=some o)→Q (.ref s.heap.objs.size) {s with heap:=h',toks:=tk}):
 wpAny (model X.prog X.w) X.A (call (.type "set") [.ref a]) Q E s:=by
 obtain⟨aD,rv,pl,hz⟩:=I.list hl
 have h1:=eZ hr
 have h2:=rv.length
 have hsz:aD.toArray.size=ks.length:=by rw[List.size_toArray];omega
 refine pF (items:=aD.toArray) (ks:=fun i=>ks.getD i []) (ad:=fun i=>Bt (ws.getD i .non)) (I.ok.hd hc) (by omega) pl.isList (fun i hi=>(vk I hr rv hi).1) (fun i hi=>(vk I hr rv hi).2) (by omega) ?_ fun h' tk hS hk=>?_
 ·rw[hsz]
  have e:((List.range ks.length).map fun i=>tupleKeyHash (intKind X.prog X.w) (ks.getD i []))=ks.map dQ:=by
   refine List.ext_getElem (by simp) fun i h1 h2=>?_
   have hi:i<ks.length:=by simpa using h1
   rw[List.getElem_map,List.getElem_map,List.getElem_range,List.getD_eq_getElem?_getD,List.getElem?_eq_getElem hi]
   rfl
  rw[e]
  exact Bj
 ·rw[hsz] at hS
  exact h h' tk hS fun b o q=>hk b o (Heap.lt_size q) q
end
end L3
namespace L3
open PySem PySem.SetTable PySem.W PyProof.Rows
theorem cZ:Slot "set_iterator" "__next__" "set_iterator.__next__":=
 .of (owner:="set_iterator") (n:="__next__") (by rw[typeLookup_type,builtinLookup_eq_fast];kernel_rfl) (by decide+kernel) (by decide+kernel) (by decide+kernel) (by first | exact .inl (by decide+kernel) | exact .inr (by decide+kernel)) (by rw[isSubtype_type];kernel_rfl)
theorem kI:Slot "set_iterator" "__iter__" "set_iterator.__iter__":=
 .of (owner:="set_iterator") (n:="__iter__") (by rw[typeLookup_type,builtinLookup_eq_fast];kernel_rfl) (by decide+kernel) (by decide+kernel) (by decide+kernel) (by first | exact .inl (by decide+kernel) | exact .inr (by decide+kernel)) (by rw[isSubtype_type];kernel_rfl)
theorem u_:Manifest.owners.lookup (String.ofList ['r', 'o', 't', 'a', 'r', 'e', 't', 'i', '_', 't', 'e', 's'].reverse)=some Manifest.sig_set_iterator:=by kernel_rfl
theorem jO(a:Value):argsOk "set_iterator.__next__" ⟨[a],[]⟩:=by
 unfold argsOk
 rw[signature?_of (id:="set_iterator.__next__") (n:=['_', '_', 't', 'x', 'e', 'n', '_', '_']) (o:=['r', 'o', 't', 'a', 'r', 'e', 't', 'i', '_', 't', 'e', 's']) (by kernel_rfl) u_]
 kernel_rfl
theorem rq(a:Value):argsOk "set_iterator.__iter__" ⟨[a],[]⟩:=by
 unfold argsOk
 rw[signature?_of (id:="set_iterator.__iter__") (n:=['_', '_', 'r', 'e', 't', 'i', '_', '_']) (o:=['r', 'o', 't', 'a', 'r', 'e', 't', 'i', '_', 't', 'e', 's']) (by kernel_rfl) u_]
 kernel_rfl
theorem jl:entryFor table "set_iterator.__next__"=some Builtin.«set_iterator.__next__» :=entryFor_of_tree (by kernel_rfl)
theorem nA:entryFor table "set.__iter__"=some Builtin.«frozenset.__iter__» :=entryFor_alias (id':="frozenset.__iter__") (by kernel_rfl) rfl (by decide+kernel) (by kernel_rfl)
theorem pI:entryFor table "set_iterator.__iter__"=some Builtin.«dict_keyiterator.__iter__» :=entryFor_alias (id':="dict_keyiterator.__iter__") (by kernel_rfl) rfl (by decide+kernel) (by kernel_rfl)
def IsSI(h:Heap)(it a:Addr)(sl k n ep:Nat):Prop:=∃o,h.get? it=some o∧o.cls= .type "set_iterator"∧o.data= .fields #[rawInt sl,rawInt k, .ref a,rawInt n,rawInt ep]
theorem IsSI.typeIs{s:Shared}{it a:Addr}{sl k n ep:Nat}(x:IsSI s.heap it a sl k n ep):s.TypeIs (.ref it) "set_iterator":=let ⟨o,ho,hc,_⟩:=x;⟨o,ho,hc⟩
theorem IsSI.at{h h':Heap}{it a:Addr}{sl k n ep:Nat}(x:IsSI h it a sl k n ep)(e:∀o,h.get? it=some o→h'.get? it=some o):IsSI h' it a sl k n ep:=let ⟨o,ho,r⟩:=x;⟨o,e o ho,r⟩
def km(w:World)(a:Addr)(ep:Nat)(es:Array (Int×Value)):Array (Int×Value):=if w.params.followText "set-order" then pickOrder (w.params.setOrder a ep) es else es
def f_(w:World)(t:SetTable)(k:Nat):Nat:=if w.params.followText "set-order" then 0 else slotAt t.place k
section
variable{prog:Program}{w:World}{A:Around}{E:Value→Shared→Prop}{s:Shared}{a:Addr}{o:Obj}{es:Array (Int×Value)}{ep:Nat}{t:SetTable}
theorem Cv{Q:Value→Shared→Prop}(ho:s.heap.get? a=some o)(hex:o.ExactSet)(hd:o.data= .set es ep t)(ht:TabOk t es.size (jC w))
 (hQ:Q (.ref s.heap.objs.size) {s with heap:=s.heap.push {cls:= .type "set_iterator",data:= .fields #[rawInt 0,rawInt 0, .ref a,rawInt es.size,rawInt ep]} }):wpAny (model prog w) A (pyIter (.ref a)) Q E s:=by
 have hT:s.TypeIs (.ref a) "set":=⟨o,ho,hex.1⟩
 have hf:=ht.fits
 refine wpAny_pyIter_slot hT F.slot_set_iter (wpAny_call_entry F.slot_set_iter hT nA ?_ (F.args_set_iter_1 _))
 unfold Builtin.«frozenset.__iter__» Builtin.Frozenset.slot0 slotArgs
 simp only[List.isEmpty_nil,Bool.not_true,Bool.false_eq_true,↓reduceIte,bind_assoc,List.length_nil,bne_self_eq_false]
 unfold Builtin.Frozenset.addrOf Builtin.Frozenset.sizeOf
 refine wpAny_bind (wpAny_pure ?_)
 try dsimp only
 refine wpAny_bind (wpAny_pure ?_)
 refine wpAny_bind (wpAny_bind (wpAny_setEntries_of ho hd hf (wpAny_pure ?_)))
 unfold setDrawn setsByText
 refine wpAny_bind (wpAny_bind (wpAny_setState_of ho hd hf (wpAny_bind (wpAny_bind (wpAny_askSetting (wpAny_pure (wpAny_pure ?_)))))))
 refine wpAny_ite_split (fun B9=>?_) fun _=>?_
 ·have Kr:(!w.params.followText "set-order" &&(!t.plain&&decide (es.size>1)))=true:=B9
  rw[ht.plain] at Kr
  simp at Kr
 ·refine wpAny_bind (wpAny_pure (wpAny_bind (wpAny_setEpoch_of ho hd hf ?_)))
  unfold newFields
  exact wpAny_bind (wpAny_newObj_type (wpAny_pure ⟨_,rfl,"set_iterator",_,⟨_,Heap.get?_push_size _ rfl,rfl⟩,cZ.lookup,hQ⟩))
theorem DZ{it:Addr}{sl k n:Nat}{Q:Value→Shared→Prop}(hit:IsSI s.heap it a sl k n ep)(h:Q (.ref it) s):wpAny (model prog w) A (pyIter (.ref it)) Q E s:=by
 refine wpAny_pyIter_slot hit.typeIs kI (wpAny_call_entry kI hit.typeIs pI ?_ (rq _))
 show wpAny _ _ (ret (.ref it)) _ _ s
 exact wpAny_pure ⟨_,rfl,"set_iterator",_,hit.typeIs,cZ.lookup,h⟩
theorem o6{k:Nat}{Q:Option (Value×Nat)→Shared→Prop}(ho:s.heap.get? a=some o)(hd:o.data= .set es ep t)(ht:TabOk t es.size (jC w))(hk:k≤es.size)
 (h:Q ((km w a ep es)[k]?.map fun e=>(e.2,f_ w t (k+1))) s):wpAny (model prog w) A (setNext a (f_ w t k) k ep) Q E s:=by
 have hf:=ht.fits
 unfold setNext setsByText
 refine wpAny_bind (wpAny_setState_of ho hd hf (wpAny_bind (wpAny_bind (wpAny_askSetting (wpAny_pure ?_)))))
 have hl:=ht.led
 unfold km f_ at h
 unfold f_
 unfold jC at hl
 refine wpAny_ite_split (fun hb=>?_) fun hb=>?_
 ·have hb:w.params.followText "set-order"=true:=hb
  rw[if_pos hb,if_pos hb] at h
  dsimp only
  rw[bne_self_eq_false,if_neg (by decide),if_pos hb]
  unfold setWalk setsByText
  refine wpAny_bind (wpAny_bind (wpAny_setState_of ho hd hf (wpAny_bind (wpAny_bind (wpAny_askSetting (wpAny_pure ?_))))))
  refine wpAny_ite_split (fun _=>?_) fun rW=>absurd hb rW
  exact wpAny_bind (wpAny_askSetting (wpAny_pure (wpAny_pure h)))
 ·have hb:¬w.params.followText "set-order"=true:=hb
  have M_:w.params.followText "set-order"=false:=by simpa using hb
  rw[if_neg hb,if_neg hb] at h
  rw[M_] at hl
  dsimp only
  refine wpAny_ite_split (fun QA=>?_) fun _=>?_
  ·have Kz:(!t.plain&&decide (es.size>1))=true:=QA
   rw[ht.plain] at Kz
   simp at Kz
  ·refine wpAny_bind (wpAny_of_eq (a:=()) ?_ ?_)
   ·show (if (!t.led&& !es.isEmpty)=true then(unsupported "set:maker-not-led":Sem Unit) else pure ())=_
    rw[hl]
    rfl
   ·rw[if_neg hb,below_at ht.rise (by rw[ht.size];exact hk)]
    refine wpAny_pure ?_
    by_cases dw:k<es.size
    ·have h1:es[k]? =some es[k]:=Array.getElem?_eq_getElem dw
     have h2:t.place[k]? =some (t.place[k]'(by rw[ht.size];exact dw)):=Array.getElem?_eq_getElem (by rw[ht.size];exact dw)
     have h3:slotAt t.place (k+1)=t.place[k]'(by rw[ht.size];exact dw)+1:=by
      show t.place.getD k 0+1=_
      rw[Array.getD_eq_getD_getElem?,h2]
      rfl
     rw[h1,h2]
     rw[h1,h3] at h
     exact h
    ·have h1:es[k]? =none:=Array.getElem?_eq_none (by omega)
     rw[h1]
     rw[h1] at h
     exact h
theorem qS{α:Type}(next:Nat→Nat):∀(fuel k:Nat) (left:List α) (out:Array α),left.length=fuel→(pickOrder.go next fuel k left out).toList.Perm (out.toList++left)
 |0,k,left,out,h=>by
  rw[List.length_eq_zero_iff.mp h,List.append_nil]
  exact .refl _
 |fuel+1,k,left,out,h=>by
  unfold pickOrder.go
  have hi:next k % left.length<left.length:=Nat.mod_lt _ (by omega)
  rw[List.getElem?_eq_getElem hi]
  dsimp only
  refine(qS next fuel (k+1) _ _ (by rw[List.length_eraseIdx_of_lt hi];omega)).trans ?_
  rw[Array.toList_push,List.append_assoc]
  refine List.Perm.append_left _ ?_
  rw[List.eraseIdx_eq_take_drop_succ]
  have hp:=(List.perm_middle (a:=left[next k % left.length]) (l₁:=left.take (next k % left.length)) (l₂:=left.drop (next k % left.length+1))).symm
  rw[←List.drop_eq_getElem_cons hi,List.take_append_drop] at hp
  exact hp
theorem ij(w:World)(a:Addr)(ep:Nat)(es:Array (Int×Value)):(km w a ep es).toList.Perm es.toList:=by
 unfold km
 split
 ·exact(qS _ es.size 0 es.toList #[] (Array.length_toList ..)).trans (by simp)
 ·exact .refl _
theorem CO{it:Addr}{k:Nat}{e:Int×Value}{Q:Option Value→Shared→Prop}(hit:IsSI s.heap it a (f_ w t k) k es.size ep)(gR:a≠it)(ho:s.heap.get? a=some o)(hd:o.data= .set es ep t)(ht:TabOk t es.size (jC w))(hx:(km w a ep es)[k]? =some e)
 (hQ:∀h',IsSI h' it a (f_ w t (k+1)) (k+1) es.size ep→Heap.SameBut it s.heap h'→Q (some e.2) {s with heap:=h'}):wpAny (model prog w) A (pyNext (.ref it)) Q E s:=by
 have hsz:(km w a ep es).size=es.size:=by rw[←Array.length_toList,(ij w a ep es).length_eq,Array.length_toList]
 have dw:k<es.size:=by rw[←hsz];exact(Array.getElem?_eq_some_iff.mp hx).1
 obtain⟨oi,JT,O7,HI⟩:=id hit
 unfold pyNext
 refine wpAny_bind (wpAny_attempt (wpAny_callSpecial?_slot (name:=Str.ofString "__next__") hit.typeIs cZ (wpAny_call_entry cZ hit.typeIs jl ?_ (jO _))))
 unfold Builtin.«set_iterator.__next__» slotArgs
 simp only[List.isEmpty_nil,Bool.not_true,Bool.false_eq_true,↓reduceIte,bind_assoc,List.length_nil,bne_self_eq_false]
 refine wpAny_bind (wpAny_pure (wpAny_bind (wpAny_fieldsOf JT HI ?_)))
 simp only[rawInt]
 refine wpAny_bind (wpAny_setEntries_of ho hd ht.fits ?_)
 rw[if_neg (by simp)]
 simp only[Int.toNat_natCast]
 refine wpAny_bind (o6 ho hd ht (Nat.le_of_lt dw) ?_)
 rw[hx]
 show wpAny _ _ (setField (.ref it) 0 (rawInt ((f_ w t (k+1):Nat):Int))>>=_) _ _ s
 refine wpAny_bind (wpAny_setField JT HI (by simp) ?_)
 have h1:(s.heap.update it (Obj.mapFields (·.setIfInBounds 0 (rawInt ((f_ w t (k+1):Nat):Int))))).get? it=some (Obj.mapFields (·.setIfInBounds 0 (rawInt ((f_ w t (k+1):Nat):Int))) oi):=Heap.get?_update_self _ JT (Obj.isFreed_of_fields (Obj.data_mapFields HI _))
 have d1:=Obj.data_mapFields HI (·.setIfInBounds 0 (rawInt ((f_ w t (k+1):Nat):Int)))
 show wpAny _ _ (setField (.ref it) 1 (rawInt ((k:Int)+1))>>=_) _ _ _
 refine wpAny_bind (wpAny_setField h1 d1 (by simp) ?_)
 refine wpAny_pure ⟨_,rfl,wpAny_pure (hQ _ ⟨_,Heap.get?_update_self _ h1 (Obj.isFreed_of_fields (Obj.data_mapFields d1 _)),(Obj.cls_mapFields ..).trans ((Obj.cls_mapFields ..).trans O7),?_⟩ ((Heap.SameBut.update ..).trans (Heap.SameBut.update ..)))⟩
 rw[Obj.data_mapFields d1]
 simp[rawInt]
theorem ER{it:Addr}{Q:Option Value→Shared→Prop}(hh:A.handled=none)(hit:IsSI s.heap it a (f_ w t es.size) es.size es.size ep)(ho:s.heap.get? a=some o)(hd:o.data= .set es ep t)(ht:TabOk t es.size (jC w))
 (hQ:∀h',Heap.ExtBut it s.heap h'→Q none {s with heap:=h'}):wpAny (model prog w) A (pyNext (.ref it)) Q E s:=by
 have hsz:(km w a ep es).size=es.size:=by rw[←Array.length_toList,(ij w a ep es).length_eq,Array.length_toList]
 obtain⟨oi,JT,O7,HI⟩:=id hit
 unfold pyNext
 refine wpAny_bind (wpAny_attempt (wpAny_callSpecial?_slot (name:=Str.ofString "__next__") hit.typeIs cZ (wpAny_call_entry cZ hit.typeIs jl ?_ (jO _))))
 unfold Builtin.«set_iterator.__next__» slotArgs
 simp only[List.isEmpty_nil,Bool.not_true,Bool.false_eq_true,↓reduceIte,bind_assoc,List.length_nil,bne_self_eq_false]
 refine wpAny_bind (wpAny_pure (wpAny_bind (wpAny_fieldsOf JT HI ?_)))
 simp only[rawInt]
 refine wpAny_bind (wpAny_setEntries_of ho hd ht.fits ?_)
 rw[if_neg (by simp)]
 simp only[Int.toNat_natCast]
 refine wpAny_bind (o6 ho hd ht (Nat.le_refl _) ?_)
 rw[Array.getElem?_eq_none (Nat.le_of_eq hsz)]
 show wpAny _ _ (setField (.ref it) 2 .none>>=_) _ _ s
 refine wpAny_bind (wpAny_setField JT HI (by simp) ?_)
 refine wpAny_bind ?_
 simp only[newExc,newTuple]
 refine wpAny_bind (wpAny_newObj_type ?_ (by size_fits))
 refine wpAny_bind (m:=firstArgMember _ _) (wpAny_of_eq (a:=Value.none) (by first | rfl | (simp only[firstArgMember];rfl)) ?_)
 refine wpAny_newObj_type ?_ (by size_fits)
 simp only[raiseNew]
 refine wpAny_bind (wpAny_handled ?_)
 rw[show A.in1.handled=none from hh]
 refine wpAny_bind (wpAny_pure (wpAny_throw ?_))
 refine wpAny_bind (wpAny_isInstance (T:="StopIteration") (b:=true) ⟨_,Heap.get?_push_size _ rfl,rfl⟩ isSubtype_stop ?_)
 exact wpAny_pure (hQ _ (((Heap.SameBut.update ..).extBut.push _).push _))
def J6(w:World)(a:Addr)(ep:Nat)(es:Array (Int×Value)):Nat→Value→Prop:=fun i v=>∃e,(km w a ep es)[i]? =some e∧v=e.2
theorem A2(hh:A.handled=none)(I a:Addr)(gR:a≠I)(hd:o.data= .set es ep t)(ht:TabOk t es.size (jC w)):
 Walks prog w A I [I,a] [I] es.size (J6 w a ep es) (fun i h=>IsSI h I a (f_ w t i) i es.size ep∧h.get? a=some o) where
 sub:=fun b hb=>by simp at hb;simp[hb]
 frame:=fun _ _ _ st hk=>⟨st.1.at fun o e=>hk I (by simp) o e,hk a (by simp) _ st.2⟩
 item:=fun i s Q E hi st hQ=>by
  have hsz:(km w a ep es).size=es.size:=by rw[←Array.length_toList,(ij w a ep es).length_eq,Array.length_toList]
  have hx:(km w a ep es)[i]? =some ((km w a ep es)[i]'(by omega)):=Array.getElem?_eq_getElem (by omega)
  exact CO st.1 gR st.2 hd ht hx fun h' zT rX=>hQ _ h' s.toks ⟨_,hx,rfl⟩ ⟨zT,(rX.2 a gR).trans st.2⟩ fun b o hb e=>rX.extBut b o (fun h=>hb (by simp[h])) e
 done:=fun s Q E st hQ=>ER hh st.1 st.2 hd ht fun h' Nh=>hQ h' s.toks fun b o hb e=>Nh b o (fun h=>hb (by simp[h])) e
 self:=fun _ _ _ _ st hQ=>DZ st.1 hQ
theorem Cd{Q:Bool→Shared→Prop}(hT:s.TypeIs (.ref a) "set")(h:Q false s):wpAny (model prog w) A (Builtin.List.listLengthHint (.ref a)) Q E s:=by
 unfold Builtin.List.listLengthHint
 refine wpAny_bind (wpAny_specialOf hT F.slot_set_len.lookup ?_)
 generalize Nn:("set.__len__":String)=Rr
 wp_delta
 rw[show splitId Rr=some ("set","__len__") from by subst Nn;decide+kernel]
 subst Nn
 refine wpAny_bind (wpAny_isInstance (T:="set") (b:=true) hT (by rw[isSubtype_type];kernel_rfl) ?_)
 refine wpAny_ite_split (fun B9=>absurd B9 (by decide)) fun _=>wpAny_ite_split (fun _=>wpAny_bind (wpAny_typeOf hT (wpAny_pure h))) fun B9=>absurd (by decide+kernel) B9
theorem Gm{a:Addr}(hex:o.ExactSet)(hd:o.data= .set es ep t)(ht:TabOk t es.size (jC w)):KdlSrc prog w "set" a a es.size (J6 w a ep es) (fun h=>h.get? a=some o) where
 type:=fun _ hm=>⟨o,hm,hex.1⟩
 there:=fun _ hm=>⟨Heap.lt_size hm,Heap.lt_size hm⟩
 keep:=fun _ _ hm hk=>hk a (.inl rfl) o hm
 notList:=by decide
 notTuple:=by decide
 hint:=fun _ _ s _ hm hq=>Cd ⟨o,hm,hex.1⟩ hq
 iter:=fun _ _ hh hm=>⟨_,_,(fun _ _ hq=>Cv hm hex hd ht hq),A2 hh _ a (Nat.ne_of_lt (Heap.lt_size hm)) hd ht,⟨⟨_,Heap.get?_push_size _ rfl,rfl,by unfold f_;split<;>rfl⟩,Heap.get?_push_of_some _ hm⟩⟩
end
end L3
namespace L3
open PySem PySem.Spec L2 SeqAt HT
open PyProof.Rows hiding St
def gO:D→M D
 | .lst ds=>match eU ds with
   |some ks=>if cT ks=true∧(ks.map dQ).Nodup then M.ret (.lst ((sortI ks).map tupI)) else M.stuck
   |none=>M.stuck
 |_=>M.stuck
section
variable{X:Cx}{Xw:Nat→Hp→Prop}{e:Expr}{δ:DE}{pos eY p p2:Pos}
theorem xJ{pins:List (Addr×Obj)}{σ:St}{H:Hp}{s:Shared}{Q:VK}(I:Inv X pins σ H s)(hc:X.calm=true){S:Addr}{ws:List V}{ks:List (List Int)}(hr:b9 H ws ks)(hk:cT ks=true)
 (hS:SetH (jC X.w) s.heap S (Aa X.prog X.w (fun i=>ks.getD i []) (fun i=>Bt (ws.getD i .non)) ks.length))
 (q:∀(q:Addr) (us:List V),H q=none→b9 H us (sortI ks)→Q (.ref q) (upd H q (.lst us))):wpAny (model X.prog X.w) X.A (call (.builtin "sorted") [.ref S]) (EP X pins σ Q) X.xe s:=by
 obtain⟨o,es,ep,t,ho,hex,Nf,hp,ht⟩:=hS
 unfold cT at hk
 rw[Bool.and_eq_true,Bool.and_eq_true] at hk
 have hd:ks.Nodup:=of_decide_eq_true hk.1.1
 have HB:ks.length<64:=of_decide_eq_true hk.1.2
 have gR:∀k∈ks,k≠[]:=fun k qj z=>by have:=List.all_eq_true.mp hk.2 k qj;rw[z] at this;cases this
 have Me:es.size=ks.length:=by rw[←Array.length_toList,hp.length_eq];unfold Aa;rw[List.length_map,List.length_range]
 have ur:sizeLine=16777216:=sizeLine_eq
 have rV:=eZ hr
 refine Calls.call_function_entry kind_sorted plain_sorted entry_sorted (args_sorted1 _) ?_
 unfold Builtin.«sorted»
 refine wpAny_bind (m:=checkCount "sorted" 1 1 _) (wpAny_pure (wpAny_bind (PySem.W.kdu_collect (A:=X.A.in1) (Gm hex Nf ht) (I.ok.hd hc) ho (by rw[Me,ur];omega) fun h1 tk acc Cz pM=>?_)))
 have I1:Inv X pins σ H {s with heap:=h1,toks:=tk}:=I.kept (t':=tk) fun b ob e=>Cz b ob e
 obtain⟨js,Nv,P7⟩:∃js:List Nat,js.Perm (List.range ks.length)∧acc.toList=js.map fun j=>Value.ref (Bt (ws.getD j .non)):=by
  have e1:acc.toList=(km X.w S ep es).toList.map (·.2):=by
   have hsz:(km X.w S ep es).size=es.size:=by rw[←Array.length_toList,(ij X.w S ep es).length_eq,Array.length_toList]
   refine List.ext_getElem? fun i=>?_
   rw[List.getElem?_map]
   by_cases hi:i<es.size
   ·have ha:acc[i]? =some (acc[i]'(by rw[pM.1];exact hi)):=Array.getElem?_eq_getElem (by rw[pM.1];exact hi)
    obtain⟨e,q1,q2⟩:=pM.2 i _ ha
    rw[Array.getElem?_toList,Array.getElem?_toList,q1,ha,q2]
    rfl
   ·rw[List.getElem?_eq_none (by rw[Array.length_toList,pM.1];omega),List.getElem?_eq_none (by rw[Array.length_toList];omega)]
    rfl
  have e2:((km X.w S ep es).toList.map (·.2)).Perm ((List.range ks.length).map fun j=>Value.ref (Bt (ws.getD j .non))):=by
   have:=(((ij X.w S ep es).trans hp).map (·.2))
   unfold Aa at this
   rw[List.map_map] at this
   exact this
  rw[←e1] at e2
  have lift:∀(l:List Value) (r:List Nat),l.Perm (r.map fun j=>Value.ref (Bt (ws.getD j .non)))→∃js:List Nat,js.Perm r∧l=js.map fun j=>Value.ref (Bt (ws.getD j .non)):=by
   intro l
   induction l with
   |nil=>
    intro r h
    have:=List.Perm.eq_nil h.symm
    exact⟨[],by rw[List.map_eq_nil_iff.mp this],rfl⟩
   |cons v l ih=>
    intro r h
    obtain⟨j,hj,ej⟩:=List.mem_map.mp (h.mem_iff.mp (List.mem_cons_self ..))
    obtain⟨r1,r2,rfl⟩:=List.append_of_mem hj
    have h':l.Perm ((r1++r2).map fun j=>Value.ref (Bt (ws.getD j .non))):=by
     have h1:=h
     rw[List.map_append,List.map_cons,←ej] at h1
     rw[List.map_append]
     exact List.Perm.cons_inv (h1.trans (by rw[ej];exact List.perm_middle))
    obtain⟨js,k1,k2⟩:=ih _ h'
    exact⟨j::js,(k1.cons j).trans List.perm_middle.symm,by rw[List.map_cons,←k2,ej]⟩
  exact lift _ _ e2
 have RM:js.length=ks.length:=by rw[Nv.length_eq,List.length_range]
 have qi:∀j∈js,j<ks.length:=fun j hj=>List.mem_range.mp (Nv.mem_iff.mp hj)
 have G1:b9 H (js.map fun i=>ws.getD i .non) (js.map fun i=>ks.getD i []):=f7 hr fun i hi=>by rw[rV];exact qi i hi
 have rv:Vals (js.map fun i=>ws.getD i .non) acc.toList:=by
  rw[P7]
  refine pf (by simp) fun i v u e1 e2=>?_
  rw[List.getElem?_map] at e1 e2
  cases hj:js[i]? with
  |none=>rw[hj] at e1;cases e1
  |some j=>
   rw[hj] at e1 e2
   cases e1
   cases e2
   obtain⟨a,e3,_⟩:=kC hr (i:=j) (by rw[rV];exact qi j (List.mem_of_getElem? hj))
   show RelV (ws.getD j .non) (.ref (Bt (ws.getD j .non)))
   rw[e3]
   rfl
 have Ce:(js.map fun i=>ks.getD i []).Perm ks:=by
  have h1:=Nv.map fun i=>ks.getD i []
  have h2:(List.range ks.length).map (fun i=>ks.getD i [])=ks:=by
   refine List.ext_getElem (by simp) fun i h1 h2=>?_
   rw[List.getElem_map,List.getElem_range,List.getD_eq_getElem?_getD,List.getElem?_eq_getElem h2]
   rfl
  rwa [h2] at h1
 generalize RU:(js.map fun i=>ws.getD i .non)=vs' at G1 rv
 generalize E3:(js.map fun i=>ks.getD i [])=ks' at G1 Ce
 have pA:ks'.Nodup:=Ce.nodup_iff.mpr hd
 have K3:sortI ks'=sortI ks:=kD (fb pA) (fb hd) fun x=>by rw[c5,c5];exact Ce.mem_iff
 have Cf:=eZ G1
 have RN:=rv.length
 have RO:=Ce.length_eq
 have Q_:=i7 I1 G1 rv fun k qj=>gR k (Ce.mem_iff.mp qj)
 refine wpAny_bind (wpAny_newList ?_ (by rw[ur];omega))
 have EA:(h1.push (seqObj "list" acc.toList.toArray 0)).get? h1.objs.size=some (seqObj "list" acc.toList.toArray 0):=Heap.get?_push_size _ rfl
 refine wpAny_bind (wpAny_holding (wpAny_call_entry slot_list_sort ⟨_,EA,rfl⟩ entry_list_sort (lP (s:={s with heap:=h1.push (seqObj "list" acc.toList.toArray 0),toks:=tk}) EA
  (Q_.keep (a:=h1.objs.size) (fun b o _ e=>Heap.get?_push_of_some _ e) (fun o e=>absurd (Heap.lt_size e) (Nat.lt_irrefl _))) pA (by omega) fun P h' c' hP hR wG uq=>?_) (args_list_sort _)))
 have EY:∀i∈P.toList,i<vs'.length:=fun i hi=>by
  obtain⟨j,hj,rfl⟩:=List.mem_iff_getElem.mp hi
  have h':j<P.size:=by rw[Array.length_toList] at hj;exact hj
  have:=hP.lt j (by rw[hP.sz] at h';exact h')
  rw[du,Array.getElem?_eq_getElem h'] at this
  have e:P.toList[j]=P[j]:=by simp
  rw[e]
  have:P[j]<acc.toList.length:=this
  omega
 have Ks:acc.toList.length=ks'.length:=by omega
 have GS:PN ks'.length P:=by rw[←Ks];exact hP
 have Kn:Ri (fun i j=>dB (ks'.getD i []) (ks'.getD j [])) P ks'.length:=by rw[←Ks];exact hR
 have G2:=lQ pA GS Kn
 have K6:=f7 G1 EY
 rw[G2,K3] at K6
 refine⟨_,rfl,wpAny_pure ⟨_,rfl,⟨.ref h1.objs.size,_,I1.laid (a:=h1.objs.size) (t':=tk) (o:= .lst (P.toList.map fun i=>vs'.getD i .non)) (fun b ob e=>uq b ob (Nat.ne_of_lt (Heap.lt_size e)) (Heap.get?_push_of_some _ e)) (Nat.le_refl _) ?_,rfl,q _ _ (I1.hok.fresh (Nat.le_refl _)) K6⟩⟩⟩
 exact⟨by rw[List.length_map,Array.length_toList,hP.sz,ur];omega,_,c',jc rv EY,wG⟩
theorem AD(hc:X.calm=true)(hu:X.A.units+64<cLine)(hg:Gl X "sorted")(hm:X.mg "sorted"=none)(HN:Gl X "set")(zV:X.mg "set"=none)(hb:bootBuiltins "sorted"=some (.builtin "sorted"))(wD:bootBuiltins "set"=some (.type "set"))(ha:PD X Xw e δ)
 (E2:starEach [e] X.env=[(false,eval e X.env)]:=by rfl)(he:starEach [.Call (.Name "set" p2) [e] [] eY] X.env=[(false,eval (.Call (.Name "set" p2) [e] [] eY) X.env)]:=by rfl):
 PD X Xw (.Call (.Name "sorted" p) [.Call (.Name "set" p2) [e] [] eY] [] pos) (d1 gO δ):=fun pins s σ H Q I ⟨F,ρ,S,w⟩=>by
 have w:WP X.K Xw F H (δ ρ>>=gO) Q:=w
 refine wpAny_Call_Name_kw (dZ I hg hm hb ?_ (by decide) (by decide))
 refine PyProof.Rows.callWith_builtin1 ?_ he rfl
 rw[he]
 refine Calls.spliced_cons (wpAny_Call_Name_kw (dZ I HN zV wD ?_ (by decide) (by decide)))
 refine PyProof.Rows.callWith_type1 ?_ E2 rfl
 rw[E2]
 refine Calls.spliced_cons (b5 (ha pins s σ H _ I ⟨F,ρ,S,WP.bind w⟩) fun u s1 ⟨v,H1,I1,r,F1,d,e1,q1,w1⟩=>Calls.spliced_nil ?_)
 unfold gO at w1
 split at w1
 ·rename_i ds
  split at w1
  ·rename_i ks Bi
   split at w1
   ·rename_i hok
    obtain⟨a,ws,rfl,h2,h3,h4⟩:=q1
    cases (show u=_ from r)
    have hr:=(lb e1.fh Bi h3).1
    have hl:=lg Bi h3
    have HB:ks.length<64:=by
     have:=hok.1
     unfold cT at this
     rw[Bool.and_eq_true,Bool.and_eq_true] at this
     exact of_decide_eq_true this.1.2
    refine D3 I1 hc hu (SqL.of (e1.fh _ _ h2)) hr (by omega) hok.2 fun h' tk hS hk=>Calls.spliced_nil ?_
    refine xJ (s:={s1 with heap:=h',toks:=tk}) (I1.kept hk) hc hr hok.1 hS fun q us hq Rh=>?_
    obtain⟨F2,e2,r2⟩:=oX e1.fh Rh
    have e3:=Ext.lay (o:= .lst us) e2.fh hq
    exact WP.fin w1 (e2.trans e3) ⟨q,_,rfl,aF,DenL.mono e3.ff (kB r2 fun k hk=>hl k (c5.mp hk)),by rw[List.length_map,i_];unfold lim;omega⟩
   ·exact w1.elim
  ·exact w1.elim
 ·exact w1.elim
end
end L3
namespace L3
open PySem PySem.Spec L2 HT
open PyProof.Rows hiding St
section
variable{X:Cx}{Xw:Nat→Hp→Prop}{e:Expr}{δs:DA}{pos p:Pos}
end
section
variable{X:Cx}{Xw:Nat→Hp→Prop}{e:Expr}{δ:DE}{pos eY p p2:Pos}
end
def n9(a:List Str)(x:Str):List Str:=if x∈a then a else a++[x]
def eo(val:Nat→Str):Nat→List Str
 |0=>[]
 |i+1=>n9 (eo val i) (val i)
theorem n_(val:Nat→Str):∀i,(eo val i).length≤i
 |0=>Nat.le_refl _
 |i+1=>by
  have ih:=n_ val i
  show (n9 _ _).length≤_
  unfold n9
  split
  ·omega
  ·rw[List.length_append,List.length_singleton];omega
theorem CI{a:List Str}{x k:Str}:k∈n9 a x↔(k∈a∨k=x):=by
 unfold n9
 split
 ·rename_i h
  exact⟨.inl,fun q=>q.elim id fun e=>e▸h⟩
 ·rw[List.mem_append,List.mem_singleton]
section
variable{prog:Program}{w:World}{A:Around}{R:Result→Shared→Prop}{I:Addr}{fp wr:List Addr}{G:Array GenState→Array GenState→Prop}{n:Nat}{P:Nat→Value→Prop}{St:Nat→Shared→Prop}
def SetS(prog:Program)(w:World)(h:Heap)(a:Addr)(xs:List Str):Prop:=h.SetOf (strKind prog w) a (fun k=>decide (k∈xs)) xs.length
theorem SetS.at{h h':Heap}{a:Addr}{xs:List Str}(x:SetS prog w h a xs)(e:∀o,h.get? a=some o→h'.get? a=some o):SetS prog w h' a xs:=
 let ⟨o,es,ep,t,ho,r⟩:=x
 ⟨o,es,ep,t,e o ho,r⟩
theorem AS(W:WalksS prog w A.in1 I fp wr G n P St)(S:Addr)(EZ:S∉fp)(val:Nat→Str)(H_:∀i v,P i v→∃t,v= .str (val i) t)(hn:n+1<scanBound):∀(k i:Nat) (s:Shared),n - i=k→i≤n→St i s→SetS prog w s.heap S (eo val i)→
 (∀s',Moved (S::wr) G s s'→SetS prog w s'.heap S (eo val n)→R (.ok (.ret .none)) s')→codeAny (model prog w) A (.builtin "set.update.loop" ⟨[.ref S, .ref I],[]⟩) R s:=by
 have Ko:S∉wr:=fun h=>EZ (W.sub _ h)
 have rY:∀b∈wr,b∈S::wr:=fun b hb=>List.mem_cons_of_mem _ hb
 intro k
 induction k with
 |zero=>
  intro i s hk hi pN hS hR
  obtain rfl:i=n:=by omega
  refine codeAny_builtin PyProof.Rows.F.entry_set_update_loop ?_
  rw[Around.under_plainId PyProof.Rows.F.plain_set_update_loop _]
  show wpAny _ A.in1 (pyNext (.ref I)>>=_) _ _ s
  refine wpAny_bind (W.done s _ _ pN fun s' hm=>?_)
  show wpAny _ A.in1 (ret Value.none) _ _ s'
  exact wpAny_pure (hR s' (hm.mono rY) (hS.at fun o e=>hm.heap S o Ko e))
 |succ k ih=>
  intro i s hk hi pN hS hR
  have dw:i<n:=by omega
  refine codeAny_builtin PyProof.Rows.F.entry_set_update_loop ?_
  rw[Around.under_plainId PyProof.Rows.F.plain_set_update_loop _]
  show wpAny _ A.in1 (pyNext (.ref I)>>=_) _ _ s
  refine wpAny_bind (W.item i s _ _ dw pN fun v s' hP H9 hm=>?_)
  obtain⟨t,rfl⟩:=H_ i v hP
  have zO:SetS prog w s'.heap S (eo val i):=hS.at fun o e=>hm.heap S o Ko e
  show wpAny _ A.in1 (holding [Value.str (val i) t] (setAdd S (.str (val i) t))>>=_) _ _ s'
  refine wpAny_bind (wpAny_holding ?_)
  unfold setAdd
  refine wpAny_holding (wpAny_bind ((strKind prog w).pyHash (k:=val i) (strKind_is _ _ _ _) ?_))
  have KY:(eo val i).length+1<scanBound:=by have:=n_ val i;omega
  refine wpAny_setAddHashed_of (knd:=strKind prog w) (s:={s' with toks:=s'.toks+1}) (strKind_is _ _ _ _) rfl zO KY fun h' Bm Mb=>?_
  have M3:SetS prog w h' S (eo val (i+1)):=by
   refine PyProof.Rows.SetOf_congr Mb (fun k'=>?_) ?_
   ·show _=decide (k'∈n9 (eo val i) (val i))
    rw[Bool.eq_iff_iff]
    simp[CI]
   ·show _=(n9 (eo val i) (val i)).length
    unfold n9
    by_cases hx:val i∈eo val i
    ·simp[hx]
    ·simp[hx]
  have JW:∀b o,b≠S→s'.heap.get? b=some o→h'.get? b=some o:=fun b o hb e=>(Bm.2 b hb).trans e
  refine wpAny_pure ⟨plainId_quiet PyProof.Rows.F.plain_set_update_loop _,ih (i+1) _ (by omega) dw (W.frame _ s' _ _ H9 (Nat.le_add_right ..) fun b hb o e=>JW b o (fun z=>EZ (z▸hb)) e) M3 fun Jx HR HD=>?_⟩
  exact hR Jx (Moved.trans W.gtrans ((hm.mono rY).then_heap (Nat.le_add_right ..) fun b o hb e=>JW b o (fun z=>hb (z▸List.mem_cons_self ..)) e) HR) HD
end
section
variable{prog:Program}{w:World}{A:Around}{E:Value→Shared→Prop}{s:Shared}
set_option maxHeartbeats 3200000 in
theorem pG{l:Addr}{items:Array Value}{val:Nat→Str}{Q:Value→Shared→Prop}(hh:A.handled=none)(hl:s.heap.IsList l items)(hi:∀(i:Nat) (v:Value),items[i]? =some v→∃t,v= .str (val i) t)(hb:items.size+1<scanBound)
 (h:∀(h':Heap) (tk:Nat),SetS prog w h' s.heap.objs.size (eo val items.size)→(∀b o,b<s.heap.objs.size→s.heap.get? b=some o→h'.get? b=some o)→Q (.ref s.heap.objs.size) {s with heap:=h',toks:=tk}):
 wpAny (model prog w) A (call (.type "set") [.ref l]) Q E s:=by
 obtain⟨c,tl,Nx⟩:=F.called_set.mro
 have KN:=F.called_set.made
 have rY:=F.called_set.sub
 refine wpAny_call (codeAny_of_tree ?_)
 show wpAny _ _ (callAny (.type "set") _) _ _ _
 refine wpAny_pure ⟨Code.quiet_builtin _ (by decide+kernel),codeAny_builtin F.entry_type_call ?_⟩
 rw[Around.under_plain (weight_type_call_type "set" [.ref l] []) rfl]
 have h1:=F.called_set.notType
 have h2:=F.called_set.canCreate
 have Qz:=F.typeCall_set_1 (.ref l)
 repeat (any_goals (first | assumption | wp_step))
 refine codeAny_mono (mB (.ref l) (E:=E) (Q₁:=fun obj s₁=>∃led:Bool,led=jC w∧obj= .ref s.heap.objs.size∧s₁={s with heap:=s.heap.push {cls:= .type "set",dict:=none,data:= .set #[] 0 (.fresh 0 0 led)} }) ⟨_,rfl,rfl,rfl⟩) fun r s₁ hr=>?_
 cases r with
 |error e=>exact hr
 |ok fl=>
  cases fl with
  |ret obj=>
   obtain⟨led,E4,rfl,rfl⟩:=hr
   have hS:(s.heap.push {cls:= .type "set",dict:=none,data:= .set #[] 0 (.fresh 0 0 led)}).get? s.heap.objs.size=some {cls:= .type "set",dict:=none,data:= .set #[] 0 (.fresh 0 0 led)}:=Heap.get?_push_size _ rfl
   have M5:Shared.TypeIs {s with heap:=s.heap.push {cls:= .type "set",dict:=none,data:= .set #[] 0 (.fresh 0 0 led)} } (.ref s.heap.objs.size) "set":=⟨_,hS,rfl⟩
   have QV:=F.called_set.init.lookup
   have Na:=F.called_set.init.bind (.ref s.heap.objs.size)
   repeat (any_goals (first | assumption | wp_step))
   refine codeAny_mono (codeAny_call_builtin (R:=wants (fun r s₂=>r= .none∧∃h' tk,s₂={s with heap:=h',toks:=tk}∧SetS prog w h' s.heap.objs.size (eo val items.size)∧(∀b o,b<s.heap.objs.size→s.heap.get? b=some o→h'.get? b=some o)) E) F.called_set.init.plain F.entry_set_init (check_set_init_1 M5 ?_)) fun r₂ s₂ H8=>?_
   ·obtain⟨ol,KS,GX,nl,Ky⟩:=hl
    obtain⟨N9,C1,Ln,xn⟩:=ol
    simp only at GX Ky
    subst GX;subst Ky
    have HX:(s.heap.push {cls:= .type "set",dict:=none,data:= .set #[] 0 (.fresh 0 0 led)}).get? l=some {cls:= .type "list",dict:=C1,data:= .seq items nl,slots:=xn}:=Heap.get?_push_of_some _ KS
    have NM:=F.sub_list_set
    have NL:=F.sub_list_frozenset
    have gR:(Value.type "list"==Value.type "dict")=false:=by decide
    have rV:(s.heap.push {cls:= .type "set",dict:=none,data:= .set #[] 0 (.fresh 0 0 led)}).IsList l items:=⟨_,HX,rfl,nl,rfl⟩
    unfold Builtin.«set.__init__» noKeywords Builtin.Frozenset.updateFrom
    generalize MZ:pyIter=PI
    wp_walk
    subst MZ
    refine wpAny_pyIter_list rV (wpAny_bind (wpAny_runValue ?_))
    have KG:l<s.heap.objs.size:=Heap.lt_size KS
    have Nm:A.in1.in1.in1.handled=none:=by simp[hh]
    have HU:l≠(s.heap.push {cls:= .type "set",dict:=none,data:= .set #[] 0 (.fresh 0 0 led)}).objs.size:=by
     rw[Heap.size_push];exact Nat.ne_of_lt (Nat.lt_succ_of_lt KG)
    have EZ:s.heap.objs.size∉[(s.heap.push {cls:= .type "set",dict:=none,data:= .set #[] 0 (.fresh 0 0 led)}).objs.size,l]:=by
     rw[Heap.size_push];simp only[List.mem_cons,List.mem_singleton,List.not_mem_nil,or_false,not_or]
     exact⟨Nat.ne_of_lt (Nat.lt_succ_self _),Nat.ne_of_gt KG⟩
    refine AS ((Walks.list Nm _ l HU items).toS) s.heap.objs.size EZ val hi hb (items.size - 0) 0 _ (by omega) (Nat.zero_le _) ⟨⟨_,Heap.get?_push_size _ rfl,rfl,rfl⟩,(rV.push _)⟩ ?hS0 ?hR
    case hS0=>
     refine PyProof.Rows.SetOf_congr ((PyProof.Rows.setObjOf_fresh (knd:=strKind prog w) led).setOf (Heap.get?_push_of_some _ hS) (by unfold scanBound;omega)) (fun _=>?_) rfl
     rw[eq_comm,decide_eq_false_iff_not]
     exact List.not_mem_nil
    case hR=>
     intro s' hm zO
     obtain⟨h',g',d',J0,Lr⟩:=s'
     obtain rfl:g'=s.gens:=hm.gens
     obtain rfl:d'=s.drawn:=hm.drawn
     obtain rfl:Lr=s.os:=hm.os
     show wpAny _ _ _ _ _ _
     refine wpAny_pure ?_
     show wpAny _ _ (ret Value.none) _ _ _
     refine wpAny_pure ⟨rfl,h',J0,rfl,zO,fun b o hb e=>?_⟩
     have JS:b≠s.heap.objs.size:=Nat.ne_of_lt hb
     have wD:b≠(s.heap.push {cls:= .type "set",dict:=none,data:= .set #[] 0 (.fresh 0 0 led)}).objs.size:=by
      rw[Heap.size_push];exact Nat.ne_of_lt (Nat.lt_succ_of_lt hb)
     exact hm.heap b o (by simp only[List.mem_cons,List.mem_singleton,List.not_mem_nil,or_false,not_or];exact⟨JS,wD⟩) (Heap.get?_push_of_some _ (Heap.get?_push_of_some _ e))
   ·cases r₂ with
    |error e=>exact H8
    |ok MS=>
     cases MS with
     |ret r=>
      obtain⟨rfl,h',tk,rfl,zO,qj⟩:=H8
      repeat (any_goals (first | assumption | wp_step))
      exact h _ _ zO qj
     |_=>exact H8.elim
  |_=>exact hr.elim
end
section
variable{X:Cx}{Xw:Nat→Hp→Prop}{e:Expr}{δ:DE}{pos eY p p2:Pos}
def eW:D→M D
 | .lst ds=>match fL ds with
   |some xs=>if xs.length≤64 then M.ret (.int (eo (fun i=>xs.getD i ⟨#[]⟩) xs.length).length) else M.stuck
   |none=>M.stuck
 |_=>M.stuck
theorem xt(hc:X.calm=true)(hg:Gl X "len")(hm:X.mg "len"=none)(HN:Gl X "set")(zV:X.mg "set"=none)(hb:bootBuiltins "len"=some (.builtin "len"))(wD:bootBuiltins "set"=some (.type "set"))(ha:PD X Xw e δ)
 (E2:starEach [e] X.env=[(false,eval e X.env)]:=by rfl)(he:starEach [.Call (.Name "set" p2) [e] [] eY] X.env=[(false,eval (.Call (.Name "set" p2) [e] [] eY) X.env)]:=by rfl):
 PD X Xw (.Call (.Name "len" p) [.Call (.Name "set" p2) [e] [] eY] [] pos) (d1 eW δ):=fun pins s σ H Q I ⟨F,ρ,S,w⟩=>by
 have w:WP X.K Xw F H (δ ρ>>=eW) Q:=w
 refine wpAny_Call_Name_kw (dZ I hg hm hb ?_ (by decide) (by decide))
 refine PyProof.Rows.callWith_builtin1 ?_ he rfl
 rw[he]
 refine Calls.spliced_cons (wpAny_Call_Name_kw (dZ I HN zV wD ?_ (by decide) (by decide)))
 refine PyProof.Rows.callWith_type1 ?_ E2 rfl
 rw[E2]
 refine Calls.spliced_cons (b5 (ha pins s σ H _ I ⟨F,ρ,S,WP.bind w⟩) fun u s1 ⟨v,H1,I1,r,F1,d,e1,q1,w1⟩=>Calls.spliced_nil ?_)
 unfold eW at w1
 split at w1
 ·rename_i ds
  split at w1
  ·rename_i xs Ia
   split at w1
   ·rename_i QP
    obtain⟨a,ws,rfl,h2,h3,h4⟩:=q1
    cases (show u=_ from r)
    obtain rfl:=iM Ia h3
    obtain⟨aD,rv,pl,hz⟩:=I1.list (SqL.of (e1.fh _ _ h2))
    have hl:=rv.length
    rw[List.length_map] at hl
    refine pG (val:=fun i=>xs.getD i ⟨#[]⟩) (I1.ok.hd hc) pl.isList (fun i v hv=>?_) (by rw[List.size_toArray];unfold scanBound;omega) fun h' tk hS hk=>Calls.spliced_nil ?_
    ·have hi:i<aD.length:=by simpa using (Array.getElem?_eq_some_iff.mp hv).1
     have r:=gc i rv (by rw[List.length_map];omega)
     rw[List.getD_eq_getElem?_getD,List.getElem?_map,List.getElem?_eq_getElem (by omega:i<xs.length),List.getD_eq_getElem?_getD,List.getElem?_eq_getElem hi] at r
     obtain⟨t,q⟩:=(show RelV (.str xs[i]) aD[i] from r)
     rw[List.getElem?_toArray,List.getElem?_eq_getElem hi] at hv
     cases hv
     exact⟨t,by rw[q,List.getD_eq_getElem?_getD,List.getElem?_eq_getElem (by omega:i<xs.length)];rfl⟩
    ·have hn:=n_ (fun i=>xs.getD i ⟨#[]⟩) aD.toArray.size
     obtain⟨o,es,ep,t,ho,hex,hd,RL,QY,hb,hf,hn⟩:=hS
     refine call_len_set ho hex hd hf (by unfold scanBound at hb;omega) ⟨.int es.size,H1,I1.kept fun b o q=>hk b o (Heap.lt_size q) q,⟨_,rfl⟩,?_⟩
     rw[hn,List.size_toArray,←hl]
     exact WP.now w1 e1.fh rfl
   ·exact w1.elim
  ·exact w1.elim
 ·exact w1.elim
end
section
variable{X:Cx}{Xw:Nat→Hp→Prop}{a b:Expr}{δa δb:DE}{pos:Pos}
end
section
variable{prog:Program}{w:World}{A:Around}{E:Value→Shared→Prop}{s:Shared}
end
section
variable{X:Cx}{Xw:Nat→Hp→Prop}{a b:Expr}{δa δb:DE}{pos:Pos}
end
end L3
namespace L3
open PySem PySem.Spec L2 SeqAt HT
open PyProof.Rows hiding St
section
variable{X:Cx}{Xw:Nat→Hp→Prop}{e:Expr}{δs:DA}{pos p:Pos}
end
end L3
namespace L3
open PySem PySem.Spec L2 HT
open PyProof.Rows hiding St
section
variable{X:Cx}{Xw:Nat→Hp→Prop}{e:Expr}{δs:DA}{pos p:Pos}
end
end L3
namespace L3
open PySem PySem.Spec L2
open PyProof.Rows hiding St
section
variable{X:Cx}{Xw:Nat→Hp→Prop}{a b:Expr}{δa δb:DE}{pos:Pos}
end
theorem vQ:typeLookup (.type "zip") "keys"=pure none:=by rw[typeLookup_type,builtinLookup_eq_fast];kernel_rfl
theorem pk:typeLookup (.type "zip") "__getattr__"=pure none:=by rw[typeLookup_type,builtinLookup_eq_fast];kernel_rfl
theorem rN:entryFor table "zip.__getattribute__"=some Builtin.«object.__getattribute__» :=
 entryFor_alias (id':="object.__getattribute__") (by kernel_rfl) (by decide+kernel) (by decide+kernel) (by kernel_rfl)
theorem tN:(Value.type "zip" !=Value.type "dict")=true:=by decide
theorem vP(a:Addr)(fs:Array Value)(sl:Array (Option Value))(u:Tok):
 Meets (Builtin.«object.__getattribute__» ⟨[.ref a, .str "keys" u],[]⟩) (fun A R s=>s.heap.get? a=some {cls:= .type "zip",dict:=none,data:= .fields fs,slots:=sl}∧raisesAttr (.ref a) "keys" A R s):=
 Meets.of_wp fun prog w A R s hs=>by
  obtain⟨hp,g,d,tk,os⟩:=s
  obtain⟨hx,hs⟩:=hs
  have hT:(⟨hp,g,d,tk,os⟩:Shared).TypeIs (.ref a) "zip":=⟨_,hx,rfl⟩
  have Pf:=vQ
  have KQ:(["__module__","__name__","__qualname__","__doc__","__annotations__"]:List Str).contains ("keys":Str)=false:=by decide
  unfold Builtin.«object.__getattribute__»
  repeat (any_goals (first | assumption | wp_step))
  try simp only[KQ,Bool.false_eq_true,if_false]
  repeat (any_goals (first | assumption | wp_step))
  exact wpAny_raiseAttrError hs.1 hs.2 (attrMsg_fits (by decide+kernel) (by size_fits))
section
variable{prog:Program}{w:World}{A:Around}{E:Value→Shared→Prop}{s:Shared}
theorem uA{a:Addr}{fs:Array Value}{Q:Option Value→Shared→Prop}(hx:s.heap.get? a=some {cls:= .type "zip",dict:=none,data:= .fields fs,slots:= #[]})(hA:A.handled=none)
 (h:∀h' tk,(∀b ob,s.heap.get? b=some ob→h'.get? b=some ob)→Q none {s with heap:=h',toks:=tk}):wpAny (model prog w) A (getAttr? (.ref a) "keys") Q E s:=by
 obtain⟨hp,g,d,tk,os⟩:=s
 have hT:∀J0,(⟨hp,g,d,J0,os⟩:Shared).TypeIs (.ref a) "zip":=fun _=>⟨_,hx,rfl⟩
 have f1:=sub_AttributeError
 have f3:=F.slot_zip_getattribute.lookup
 have f4:=F.slot_zip_getattribute.bind (.ref a)
 have f5:=pk
 unfold getAttr? getAttrBy? getAttrBy
 repeat (any_goals (first | assumption | exact hT _ | ((with_reducible show wpAny _ _ (call (Value.builtin "zip.__getattribute__") _ _) _ _ _);refine call_meets F.slot_zip_getattribute (hT _) rN (F.args_zip_getattribute_2 _ _) (vP a fs #[] _) ⟨hx,hA,fun h' J0 e Mo=>?_⟩) | wp_step))
 obtain⟨t',u',he⟩:=Mo.there
 show wpAny _ _ (getattributeRaised _ _ _ _ _ _ _) _ _ _
 unfold getattributeRaised
 repeat (any_goals (first | assumption | wp_step))
 exact h _ _ fun b ob e=>Mo.keeps b ob e
structure ZipS (h:Heap) (z TI TO i1 i2:Addr):Prop where
 z:∃f0 f1,h.get? z=some {cls:= .type "zip",dict:=none,data:= .fields #[f0,f1, .bool false, .ref TI, .ref TO],slots:= #[]}∧(f1= .bool false∨f1= .bool true)∧(f0= .none∨∃(T:Addr) (o:Obj),f0=rawInt (T:Nat)∧T≠z∧T≠TO∧T≠i1∧T≠i2∧h.get? T=some o)
 ti:IsPair h TI (.ref i1) (.ref i2)
 to:∃a b,IsPair h TO a b
structure ZAp (z TI TO i1 i2:Addr) (f1 f2:List Addr):Prop where
 TIz:TI≠z
 TITO:TI≠TO
 TIi1:TI≠i1
 TIi2:TI≠i2
 TOz:TO≠z
 TOi1:TO≠i1
 TOi2:TO≠i2
 i1z:i1≠z
 i2z:i2≠z
 i12:i1≠i2
 z1:z∉f1
 z2:z∉f2
 t1:TO∉f1
 t2:TO∉f2
 a2:i1∉f2
 b1:i2∉f1
variable{z TI TO i1 i2:Addr}{p1 p2:List Addr}{n1 n2 k:Nat}{P1 P2:Nat→Value→Prop}{S1 S2:Nat→Heap→Prop}
theorem vO{f0 f1:Value}{Q:Bool→Shared→Prop}(hz:s.heap.get? z=some {cls:= .type "zip",dict:=none,data:= .fields #[f0,f1, .bool false, .ref TI, .ref TO],slots:= #[]})(HM:f1= .bool false∨f1= .bool true)
 (h:∀(h':Heap) Ki,h'.get? z=some {cls:= .type "zip",dict:=none,data:= .fields #[f0,Ki, .bool false, .ref TI, .ref TO],slots:= #[]}→(Ki= .bool false∨Ki= .bool true)→Heap.SameBut z s.heap h'→Q false {s with heap:=h'}):
 wpAny (model prog w) A (if (f1 !=Value.bool true)=true then(do setField (.ref z) 1 (.bool true);pure false) else pure false) Q E s:=by
 rcases HM with rfl | rfl
 ·rw[if_pos (show (Value.bool false !=Value.bool true)=true from rfl)]
  exact wpAny_bind (wpAny_setField_rec hz (by simp) fun h₃ e₃ pB=>wpAny_pure (h h₃ _ e₃ (.inr rfl) pB))
 ·rw[if_neg (show¬((Value.bool true !=Value.bool true)=true) from Bool.false_ne_true)]
  exact wpAny_pure (h s.heap _ hz (.inr rfl) (Heap.SameBut.refl _ _))
theorem A5{Q:Value→Shared→Prop}(D1:Draws prog w A i1 p1 n1 P1 S1)(D2:Draws prog w A i2 p2 n2 P2 S2)(D:ZAp z TI TO i1 i2 p1 p2)(hz:ZipS s.heap z TI TO i1 i2)(h1:S1 k s.heap)(h2:S2 k s.heap)(l1:k<n1)(l2:k<n2)
 (hQ:∀x y h' tk (T:Addr),P1 k x→P2 k y→ZipS h' z TI TO i1 i2→S1 (k+1) h'→S2 (k+1) h'→IsPair h' T x y→s.heap.objs.size≤T→(∀c o,c≠z→c≠TO→c≠i1→c≠i2→s.heap.get? c=some o→h'.get? c=some o)→Q (.ref T) {s with heap:=h',toks:=tk}):
 wpAny (model prog w) A (Builtin.«zip.__next__» ⟨[.ref z],[]⟩) (fun fin s'=>∃v,fin= .done (.ret v)∧Q v s') E s:=by
 obtain⟨⟨f0,f1,uu,HM,Ni⟩,GU,a,b,JQ⟩:=hz
 have lt:∀{h:Heap}{c:Addr}{o:Obj},h.get? c=some o→c<h.objs.size:=fun e=>Heap.lt_size e
 show wpAny _ _ (field (.ref z) 2>>=_) _ _ _
 refine wpAny_bind (wpAny_field uu rfl (x:= .bool false) rfl ?_)
 show wpAny _ _ (field (.ref z) 3>>=_) _ _ _
 refine wpAny_bind (wpAny_field uu rfl (x:= .ref TI) rfl ?_)
 refine wpAny_bind (wpAny_seqItems GU rfl ?_)
 show wpAny _ _ (Builtin.SmallTypes.ownedTupleIsFree (.ref z)>>=_) _ _ _
 refine wpAny_bind ?_
 unfold Builtin.SmallTypes.ownedTupleIsFree
 rcases Ni with rfl | ⟨T,o,rfl,t1,t2,t3,t4,hT⟩
 ·refine wpAny_bind (wpAny_field uu rfl (x:= .none) rfl (wpAny_pure ?_))
  simp only[if_true]
  refine wpAny_bind (wpAny_rule ?_)
  refine wpAny_bind (wpAny_field uu rfl (x:= .ref TO) rfl ?_)
  refine wpAny_bind (wpAny_setField_rec uu (by simp) fun h₁ Ic ED=>?_)
  replace Ic:h₁.get? z=some {cls:= .type "zip",dict:=none,data:= .fields #[.ellipsis,f1, .bool false, .ref TI, .ref TO],slots:= #[]}:=Ic
  refine wpAny_bind ?_
  simp only[List.zipIdx_cons,List.zipIdx_nil,List.forIn_cons,List.forIn_nil]
  refine wpAny_bind (wpAny_bind (wpAny_onRaise ?_))
  show wpAny _ _ (Builtin.SmallTypes.nextOf (.ref i1)>>=_) _ _ _
  refine wpAny_bind (D1.item k _ _ _ l1 (D1.frame _ _ _ h1 fun c hc o e=>ED.extBut _ _ (fun q=>D.z1 (q▸hc)) e) fun x h₂ RZ px Qi Bn=>wpAny_pure ?_)
  replace Bn:Heap.SameBut i1 h₁ h₂:=Bn
  have Kp:IsPair h₂ TO a b:=Bn.extBut _ _ D.TOi1 (ED.extBut _ _ D.TOz JQ)
  refine wpAny_bind (wpAny_seqItems Kp rfl ?_)
  refine wpAny_bind (wpAny_updateSeq_pair Kp fun h₃ HE pB=>?_)
  replace HE:IsPair h₃ TO x b:=HE
  replace pB:Heap.SameBut TO h₂ h₃:=pB
  refine wpAny_bind (wpAny_letGo (wpAny_pure ?_))
  refine wpAny_bind (wpAny_bind (wpAny_onRaise ?_))
  show wpAny _ _ (Builtin.SmallTypes.nextOf (.ref i2)>>=_) _ _ _
  refine wpAny_bind (D2.item k _ _ _ l2 (D2.frame _ _ _ h2 fun c hc o e=>pB.extBut _ _ (fun q=>D.t2 (q▸hc)) (Bn.extBut _ _ (fun q=>D.a2 (q▸hc)) (ED.extBut _ _ (fun q=>D.z2 (q▸hc)) e))) fun y h₄ RE py Qk yx=>wpAny_pure ?_)
  replace yx:Heap.SameBut i2 h₃ h₄:=yx
  have Kq:IsPair h₄ TO x b:=yx.extBut _ _ D.TOi2 HE
  refine wpAny_bind (wpAny_seqItems Kq rfl ?_)
  refine wpAny_bind (wpAny_updateSeq_pair Kq fun h₅ B8 yy=>?_)
  replace B8:IsPair h₅ TO x y:=B8
  replace yy:Heap.SameBut TO h₄ h₅:=yy
  refine wpAny_bind (wpAny_letGo (wpAny_pure (wpAny_pure ?_)))
  refine wpAny_bind (wpAny_seqItems B8 rfl ?_)
  refine wpAny_bind (wpAny_newTuple ?_)
  have hsz:h₅.objs.size=s.heap.objs.size:=by rw[yy.1,yx.1,pB.1,Bn.1,ED.1]
  have Pp:h₅.get? z=some {cls:= .type "zip",dict:=none,data:= .fields #[.ellipsis,f1, .bool false, .ref TI, .ref TO],slots:= #[]}:=yy.extBut _ _ D.TOz.symm (yx.extBut _ _ D.i2z.symm (pB.extBut _ _ D.TOz.symm (Bn.extBut _ _ D.i1z.symm Ic)))
  have HP:∀c o,c≠z→c≠TO→c≠i1→c≠i2→s.heap.get? c=some o→h₅.get? c=some o:=fun c o c1 c2 c3 c4 e=>
   yy.extBut _ _ c2 (yx.extBut _ _ c4 (pB.extBut _ _ c2 (Bn.extBut _ _ c3 (ED.extBut _ _ c1 e))))
  show wpAny _ _ (Builtin.SmallTypes.ownedTupleHandOut (.ref z) (.ref h₅.objs.size)>>=_) _ _ _
  refine wpAny_bind ?_
  unfold Builtin.SmallTypes.ownedTupleHandOut
  have Rp:=Heap.get?_push_of_some {cls:= .type "tuple",data:= .seq #[x,y]} Pp
  refine wpAny_bind (wpAny_setField_rec Rp (by simp) fun h₇ NS Mj=>?_)
  replace Mj:Heap.SameBut z (h₅.push {cls:= .type "tuple",data:= .seq #[x,y]}) h₇:=Mj
  replace NS:h₇.get? z=some {cls:= .type "zip",dict:=none,data:= .fields #[rawInt h₅.objs.size,f1, .bool false, .ref TI, .ref TO],slots:= #[]}:=NS
  refine wpAny_setField_rec NS (by simp) fun h₈ NT Ml=>?_
  replace Ml:Heap.SameBut z h₇ h₈:=Ml
  replace NT:h₈.get? z=some {cls:= .type "zip",dict:=none,data:= .fields #[rawInt h₅.objs.size, .bool false, .bool false, .ref TI, .ref TO],slots:= #[]}:=NT
  have up:∀c o,c≠z→h₅.get? c=some o→h₈.get? c=some o:=fun c o c1 e=>Ml.extBut _ _ c1 (Mj.extBut _ _ c1 (Heap.get?_push_of_some _ e))
  have N5:h₅.objs.size≠z:=Nat.ne_of_gt (lt Pp)
  have O5:IsPair h₈ h₅.objs.size x y:=Ml.extBut _ _ N5 (Mj.extBut _ _ N5 (Heap.get?_push_size _ rfl))
  obtain⟨o1,e1⟩:=D1.live _ _ h1
  obtain⟨o2,e2⟩:=D2.live _ _ h2
  refine wpAny_pure ⟨_,rfl,hQ x y h₈ _ _ px py ⟨⟨_,_,NT, .inl rfl, .inr ⟨h₅.objs.size,_,rfl,N5,Nat.ne_of_gt (lt B8),?_,?_,O5⟩⟩,?_,x,y,up _ _ D.TOz B8⟩ ?_ ?_ O5 (Nat.le_of_eq hsz.symm) fun c o c1 c2 c3 c4 e=>up c o c1 (HP c o c1 c2 c3 c4 e)⟩
  ·rw[hsz];exact Nat.ne_of_gt (lt e1)
  ·rw[hsz];exact Nat.ne_of_gt (lt e2)
  ·exact up _ _ D.TIz (HP _ _ D.TIz D.TITO D.TIi1 D.TIi2 GU)
  ·exact D1.frame _ _ _ Qi fun c hc o e=>up c o (fun q=>D.z1 (q▸hc)) (yy.extBut _ _ (fun q=>D.t1 (q▸hc)) (yx.extBut _ _ (fun q=>D.b1 (q▸hc)) (pB.extBut _ _ (fun q=>D.t1 (q▸hc)) e)))
  ·exact D2.frame _ _ _ Qk fun c hc o e=>up c o (fun q=>D.z2 (q▸hc)) (yy.extBut _ _ (fun q=>D.t2 (q▸hc)) e)
 ·refine wpAny_bind (wpAny_field uu rfl (x:=rawInt (T:Nat)) rfl ?_)
  show wpAny _ _ (loadIfAlive ((T:Int).toNat)>>=_) _ _ _
  rw[Int.toNat_natCast]
  refine wpAny_bind (W.kdx_alive hT ?_)
  simp only[Option.isNone_some,Bool.false_eq_true,if_false]
  refine wpAny_bind (wpAny_field uu rfl (x:=f1) rfl ?_)
  refine vO uu HM fun h₃ Ki e₃ c₃ pB=>?_
  simp only[Bool.false_eq_true,if_false]
  rw[List.forIn_toArray]
  simp only[List.forIn_cons,List.forIn_nil]
  refine wpAny_bind (wpAny_bind (wpAny_bind (wpAny_holding ?_)))
  show wpAny _ _ (Builtin.SmallTypes.nextOf (.ref i1)>>=_) _ _ _
  refine wpAny_bind (D1.item k _ _ _ l1 (D1.frame _ _ _ h1 fun c hc o e=>pB.extBut _ _ (fun q=>D.z1 (q▸hc)) e) fun x h₄ RE px Qj yx=>wpAny_pure (wpAny_pure ?_))
  replace yx:Heap.SameBut i1 h₃ h₄:=yx
  refine wpAny_bind (wpAny_bind (wpAny_holding ?_))
  show wpAny _ _ (Builtin.SmallTypes.nextOf (.ref i2)>>=_) _ _ _
  refine wpAny_bind (D2.item k _ _ _ l2 (D2.frame _ _ _ h2 fun c hc o e=>yx.extBut _ _ (fun q=>D.a2 (q▸hc)) (pB.extBut _ _ (fun q=>D.z2 (q▸hc)) e)) fun y h₅ R0 py Ql yy=>wpAny_pure (wpAny_pure (wpAny_pure ?_)))
  replace yy:Heap.SameBut i2 h₄ h₅:=yy
  show wpAny _ _ (newTuple [x,y]>>=_) _ _ _
  refine wpAny_bind (wpAny_newTuple ?_)
  have hsz:h₅.objs.size=s.heap.objs.size:=by rw[yy.1,yx.1,pB.1]
  have HP:∀c o,c≠z→c≠i1→c≠i2→s.heap.get? c=some o→(h₅.push {cls:= .type "tuple",data:= .seq #[x,y]}).get? c=some o:=fun c o c1 c3 c4 e=>Heap.get?_push_of_some _ (yy.extBut _ _ c4 (yx.extBut _ _ c3 (pB.extBut _ _ c1 e)))
  refine wpAny_pure ⟨_,rfl,hQ x y _ _ _ px py ⟨⟨_,_,Heap.get?_push_of_some _ (yy.extBut _ _ D.i2z.symm (yx.extBut _ _ D.i1z.symm e₃)),c₃, .inr ⟨T,o,rfl,t1,t2,t3,t4,HP _ _ t1 t3 t4 hT⟩⟩,HP _ _ D.TIz D.TIi1 D.TIi2 GU,a,b,HP _ _ D.TOz D.TOi1 D.TOi2 JQ⟩ ?_ ?_ (Heap.get?_push_size _ rfl) (Nat.le_of_eq hsz.symm) fun c o c1 _ c3 c4 e=>HP c o c1 c3 c4 e⟩
  ·exact D1.frame _ _ _ Qj fun c hc o e=>Heap.get?_push_of_some _ (yy.extBut _ _ (fun q=>D.b1 (q▸hc)) e)
  ·exact D2.frame _ _ _ Ql fun c hc o e=>Heap.get?_push_of_some _ e
theorem Ep{Q:PySem.Fin→Shared→Prop}(D1:Draws prog w A i1 p1 n1 P1 S1)(D:ZAp z TI TO i1 i2 p1 p2)(hz:ZipS s.heap z TI TO i1 i2)(h1:S1 n1 s.heap)
 (hE:∀h' e,(∀c o,c≠z→c≠i1→s.heap.get? c=some o→h'.get? c=some o)→(∃o,h'.get? e=some o∧o.cls= .type "StopIteration")→E (.ref e) {s with heap:=h'}):
 wpAny (model prog w) A (Builtin.«zip.__next__» ⟨[.ref z],[]⟩) Q E s:=by
 obtain⟨⟨f0,f1,uu,HM,Ni⟩,GU,a,b,JQ⟩:=hz
 show wpAny _ _ (field (.ref z) 2>>=_) _ _ _
 refine wpAny_bind (wpAny_field uu rfl (x:= .bool false) rfl ?_)
 show wpAny _ _ (field (.ref z) 3>>=_) _ _ _
 refine wpAny_bind (wpAny_field uu rfl (x:= .ref TI) rfl ?_)
 refine wpAny_bind (wpAny_seqItems GU rfl ?_)
 show wpAny _ _ (Builtin.SmallTypes.ownedTupleIsFree (.ref z)>>=_) _ _ _
 refine wpAny_bind ?_
 unfold Builtin.SmallTypes.ownedTupleIsFree
 rcases Ni with rfl | ⟨T,o,rfl,t1,t2,t3,t4,hT⟩
 ·refine wpAny_bind (wpAny_field uu rfl (x:= .none) rfl (wpAny_pure ?_))
  simp only[if_true]
  refine wpAny_bind (wpAny_rule ?_)
  refine wpAny_bind (wpAny_field uu rfl (x:= .ref TO) rfl ?_)
  refine wpAny_bind (wpAny_setField_rec uu (by simp) fun h₁ Ic ED=>?_)
  replace Ic:h₁.get? z=some {cls:= .type "zip",dict:=none,data:= .fields #[.ellipsis,f1, .bool false, .ref TI, .ref TO],slots:= #[]}:=Ic
  replace ED:Heap.SameBut z s.heap h₁:=ED
  refine wpAny_bind ?_
  simp only[List.zipIdx_cons,List.zipIdx_nil,List.forIn_cons,List.forIn_nil]
  refine wpAny_bind (wpAny_bind (wpAny_onRaise ?_))
  show wpAny _ _ (Builtin.SmallTypes.nextOf (.ref i1)>>=_) _ _ _
  refine wpAny_bind (D1.done _ _ _ (D1.frame _ _ _ h1 fun c hc o e=>ED.extBut _ _ (fun q=>D.z1 (q▸hc)) e) fun h₂ e Bn he=>?_)
  obtain⟨oe,NB,O6⟩:=he
  have Po:=Bn _ _ D.i1z.symm Ic
  have QE:e≠z:=fun x=>by subst x;rw[Po] at NB;cases NB;simp at O6
  refine wpAny_setField_rec Po (by simp) fun h₃ _ pB=>hE h₃ e (fun c o c1 c3 x=>pB.extBut _ _ c1 (Bn _ _ c3 (ED.extBut _ _ c1 x))) ⟨oe,pB.extBut _ _ QE NB,O6⟩
 ·refine wpAny_bind (wpAny_field uu rfl (x:=rawInt (T:Nat)) rfl ?_)
  show wpAny _ _ (loadIfAlive ((T:Int).toNat)>>=_) _ _ _
  rw[Int.toNat_natCast]
  refine wpAny_bind (W.kdx_alive hT ?_)
  simp only[Option.isNone_some,Bool.false_eq_true,if_false]
  refine wpAny_bind (wpAny_field uu rfl (x:=f1) rfl ?_)
  refine vO uu HM fun h₃ Ki e₃ c₃ pB=>?_
  simp only[Bool.false_eq_true,if_false]
  rw[List.forIn_toArray]
  simp only[List.forIn_cons,List.forIn_nil]
  refine wpAny_bind (wpAny_bind (wpAny_bind (wpAny_holding ?_)))
  show wpAny _ _ (Builtin.SmallTypes.nextOf (.ref i1)>>=_) _ _ _
  exact wpAny_bind (D1.done _ _ _ (D1.frame _ _ _ h1 fun c hc o e=>pB.extBut _ _ (fun q=>D.z1 (q▸hc)) e) fun h₂ e Bn he=>hE h₂ e (fun c o c1 c3 x=>Bn _ _ c3 (pB.extBut _ _ c1 x)) he)
end
section
variable{prog:Program}{w:World}{A:Around}{E:Value→Shared→Prop}{s:Shared}
variable{z TI TO i1 i2:Addr}{p1 p2:List Addr}{n1 n2 k:Nat}{P1 P2:Nat→Value→Prop}{S1 S2:Nat→Heap→Prop}
theorem A6{Q:Option Value→Shared→Prop}(hh:A.handled=none)(D1:∀A':Around,A'.handled=none→Draws prog w A' i1 p1 n1 P1 S1)(D2:∀A':Around,A'.handled=none→Draws prog w A' i2 p2 n2 P2 S2)(D:ZAp z TI TO i1 i2 p1 p2)(hz:ZipS s.heap z TI TO i1 i2)(h1:S1 k s.heap)(h2:S2 k s.heap)(l1:k<n1)(l2:k<n2)
 (hQ:∀x y h' tk (T:Addr),P1 k x→P2 k y→ZipS h' z TI TO i1 i2→S1 (k+1) h'→S2 (k+1) h'→IsPair h' T x y→(∀c o,c≠z→c≠TO→c≠i1→c≠i2→s.heap.get? c=some o→h'.get? c=some o)→Q (some (.ref T)) {s with heap:=h',toks:=tk}):
 wpAny (model prog w) A (pyNext (.ref z)) Q E s:=by
 have hT:s.TypeIs (.ref z) "zip":=let ⟨_,_,e,_⟩:=hz.z;⟨_,e,rfl⟩
 unfold pyNext
 exact wpAny_bind (wpAny_attempt (wpAny_callSpecial?_slot (name:=Str.ofString "__next__") hT F.slot_zip_next
  (wpAny_call_entry F.slot_zip_next hT F.entry_zip_next
   (A5 (D1 _ (by simp[hh])) (D2 _ (by simp[hh])) D hz h1 h2 l1 l2 fun x y h' tk T a1 a2 a3 a4 a5 a6 _ a7=>wpAny_pure (hQ x y h' tk T a1 a2 a3 a4 a5 a6 a7)) (F.args_zip_next_1 _))))
theorem A7{Q:Option Value→Shared→Prop}(hh:A.handled=none)(D1:∀A':Around,A'.handled=none→Draws prog w A' i1 p1 n1 P1 S1)(D:ZAp z TI TO i1 i2 p1 p2)(hz:ZipS s.heap z TI TO i1 i2)(h1:S1 n1 s.heap)
 (hQ:∀h',(∀c o,c≠z→c≠i1→s.heap.get? c=some o→h'.get? c=some o)→Q none {s with heap:=h'}):wpAny (model prog w) A (pyNext (.ref z)) Q E s:=by
 have hT:s.TypeIs (.ref z) "zip":=let ⟨_,_,e,_⟩:=hz.z;⟨_,e,rfl⟩
 unfold pyNext
 refine wpAny_bind (wpAny_attempt (wpAny_callSpecial?_slot (name:=Str.ofString "__next__") hT F.slot_zip_next
  (wpAny_call_entry F.slot_zip_next hT F.entry_zip_next (Ep (p2:=p2) (D1 _ (by simp[hh])) D hz h1 fun h' e hk he=>?_) (F.args_zip_next_1 _))))
 obtain⟨o,ho,hc⟩:=he
 refine wpAny_bind (wpAny_isInstance (T:="StopIteration") (b:=true) ⟨o,ho,hc⟩ isSubtype_stop ?_)
 exact wpAny_pure (hQ _ hk)
def tM(ks:List Str)(x:Str):Nat→List (Key×V)
 |0=>[]
 |i+1=>putK (tM ks x i) (.inr (ks.getD i ⟨#[]⟩)) (.str ⟨#[x.cps.getD i 0]⟩)
theorem vN(ks:List Str)(x:Str):∀i,(tM ks x i).length≤i
 |0=>Nat.le_refl _
 |i+1=>by
  have:=vN ks x i
  have:=dj (tM ks x i) (.inr (ks.getD i ⟨#[]⟩)) (.str ⟨#[x.cps.getD i 0]⟩)
  show (putK _ _ _).length≤_
  omega
theorem A9{D L:Addr}{vs:List Value}{ks:List Str}{x:Str}{tx:Tok}{old:Heap}{R:Result→Shared→Prop}(hh:A.handled=none)(ap:ZAp z TI TO i1 i2 [i1,L] [i2])(MY:L≠i1)(oz:old.get? z=none)(N8:old.get? TO=none)(o1:old.get? i1=none)(o2:old.get? i2=none)(oD:old.get? D=none)
 (dz:D≠z)(dI:D≠TI)(dO:D≠TO)(d1:D≠i1)(d2:D≠i2)(dL:D≠L)(hL:old.IsList L vs.toArray)(hk:∀(i:Nat) (v:Value),vs[i]? =some v→∃t,v= .str (ks.getD i ⟨#[]⟩) t)(hx:vs.length≤x.cps.size)(hsz:vs.length≤sizeLine)
 (hR:∀h' tk ar,(∀c o,old.get? c=some o→h'.get? c=some o)→KV (tM ks x vs.length) ar→h'.DictOf (aY prog w) D ar→R (.ok (.ret .none)) {s with heap:=h',toks:=tk}):
 ∀(r i:Nat) (h:Heap) (tk:Nat) (j:Int) (tj:Tok) (ar:List (Key×Value)),vs.length - i=r→i≤vs.length→(∀c o,old.get? c=some o→h.get? c=some o)→ZipS h z TI TO i1 i2→h.IsListIter i1 L i→h.IsStrIter i2 "str_ascii_iterator" x tx i→KV (tM ks x i) ar→h.DictOf (aY prog w) D ar→
  codeAny (model prog w) A (.builtin "dict.update.loop" ⟨[.ref D, .ref z, .int j tj, .none],[]⟩) R {s with heap:=h,toks:=tk}:=by
 have D1:∀A':Around,A'.handled=none→Draws prog w A' i1 [i1,L] vs.toArray.size (fun i v=>vs.toArray[i]? =some v) (fun i h=>h.IsListIter i1 L i∧h.IsList L vs.toArray):=fun A' q=>Draws.list q i1 L MY vs.toArray
 have D2:∀A':Around,A'.handled=none→Draws prog w A' i2 [i2] x.cps.size (fun i v=>∃c u,x.cps[i]? =some c∧v= .str ⟨#[c]⟩ u) (fun i h=>h.IsStrIter i2 "str_ascii_iterator" x tx i):=fun A' q=>Draws.strAscii q i2 x tx
 have K4:vs.toArray.size=vs.length:=List.size_toArray ..
 have no:∀{c b:Addr}{o:Obj},old.get? b=none→old.get? c=some o→c≠b:=fun n e q=>by rw[q,n] at e;cases e
 have listAt:∀{h:Heap},(∀c o,old.get? c=some o→h.get? c=some o)→h.IsList L vs.toArray:=fun {h} k=>by
  obtain⟨o,e,q⟩:=hL
  exact⟨o,k _ _ e,q⟩
 intro r
 induction r with
 |zero=>
  intro i h tk j tj ar hr hi k hz NZ Ld kv dd
  have qi:i=vs.length:=by omega
  refine codeAny_builtin dr ?_
  rw[Around.under_plainId bI _]
  show wpAny _ A.in1 (pyNext (.ref z)>>=_) _ _ _
  refine wpAny_bind (A7 (by simp[hh]) D1 ap hz ⟨by rw[K4,←qi];exact NZ,listAt k⟩ fun h' k'=>?_)
  show wpAny _ A.in1 (Builtin.Dict.addKeywords D []>>=_) _ _ _
  refine wpAny_bind (wpAny_pure (wpAny_pure ?_))
  refine hR _ _ ar (fun c o e=>k' c o (no oz e) (no o1 e) (k c o e)) (by rw[←qi];exact kv) ?_
  obtain⟨o,es,ep,q1,q2⟩:=dd
  exact⟨o,es,ep,k' _ _ dz d1 q1,q2⟩
 |succ r ih=>
  intro i h tk j tj ar hr hi k hz NZ Ld kv dd
  have dw:i<vs.length:=by omega
  refine codeAny_builtin dr ?_
  rw[Around.under_plainId bI _]
  show wpAny _ A.in1 (pyNext (.ref z)>>=_) _ _ _
  refine wpAny_bind (A6 (by simp[hh]) D1 D2 ap hz ⟨NZ,listAt k⟩ Ld (by rw[K4];exact dw) (by omega) fun v u h1 t1 T pv pu z1 ⟨j1,_⟩ j2 pr k1=>?_)
  obtain⟨tv,rfl⟩:=hk i v (by simpa using pv)
  obtain⟨c,tu,hc,rfl⟩:=pu
  show wpAny _ A.in1 (holding [Value.ref T] (tryCatch (Builtin.Dict.pairItems (.ref T)) _>>=_)>>=_) _ _ _
  refine wpAny_bind (wpAny_holding (wpAny_bind (wpAny_tryCatch ?_)))
  unfold Builtin.Dict.pairItems
  refine wpAny_bind (wpAny_typeOf ⟨_,pr,rfl⟩ ?_)
  rw[if_pos (by decide)]
  refine wpAny_bind (wpAny_seqItems pr rfl (wpAny_pure ?_))
  show wpAny _ A.in1 (holding [Value.str (ks.getD i ⟨#[]⟩) tv,Value.str ⟨#[c]⟩ tu] (dictSet D (.str (ks.getD i ⟨#[]⟩) tv) (.str ⟨#[c]⟩ tu))) _ _ _
  have L8:h1.DictOf (aY prog w) D ar:=by
   obtain⟨o,es,ep,q1,q2⟩:=dd
   exact⟨o,es,ep,k1 _ _ dz dO d1 d2 q1,q2⟩
  have hl:ar.length≤i:=by
   have:=vN ks x i
   rw[←kv.length]
   exact this
  refine wpAny_holding (wpAny_dictSet_pairs (k:=(Sum.inr (ks.getD i ⟨#[]⟩):Key)) (hsz:=by omega) (l8 ..) L8 fun h2 Be EB=>?_)
  show wpAny _ A.in1 (pure (Fin.again (.builtin "dict.update.loop" ⟨[.ref D, .ref z,rawInt (j+1), .none],[]⟩))) _ _ _
  refine wpAny_pure ⟨plainId_quiet bI _,?_⟩
  replace EB:Heap.SameBut D h1 h2:=EB
  have up:∀c o,c≠D→h1.get? c=some o→h2.get? c=some o:=fun c o q e=>EB.extBut _ _ q e
  refine ih (i+1) h2 _ _ _ _ (by omega) (by omega) (fun c o e=>up c o (no oD e) (k1 c o (no oz e) (no N8 e) (no o1 e) (no o2 e) (k c o e))) ?_ ?_ ?_ (kv.put _ ⟨tu,?_⟩) Be
  ·obtain⟨⟨f0,f1,y1,y2,y3⟩,y4,a,b,y5⟩:=z1
   refine⟨⟨f0,f1,up _ _ dz.symm y1,y2,?_⟩,up _ _ dI.symm y4,a,b,up _ _ dO.symm y5⟩
   rcases y3 with y3 | ⟨T',o,u1,u2,u3,u4,u5,u6⟩
   ·exact .inl y3
   ·refine .inr ?_
    by_cases O4:T'=D
    ·obtain⟨o2,_,_,q,_⟩:=Be
     exact⟨T',o2,u1,u2,u3,u4,u5,by rw[O4];exact q⟩
    ·exact⟨T',o,u1,u2,u3,u4,u5,up _ _ O4 u6⟩
  ·obtain⟨o,e,q⟩:=j1
   exact⟨o,up _ _ d1.symm e,q⟩
  ·obtain⟨o,e,q⟩:=j2
   exact⟨o,up _ _ d2.symm e,q⟩
  ·have Pb:i<x.cps.size:=by omega
   rw[Array.getElem?_eq_getElem Pb] at hc
   cases hc
   rw[Array.getD_eq_getD_getElem?,Array.getElem?_eq_getElem Pb]
   rfl
end
abbrev MA(h:Heap)(l:Addr):Heap:=h.push {cls:= .type "list_iterator",data:= .fields #[.ref l, .int 0 0]}
abbrev MB(h:Heap)(l:Addr)(x:Str)(t:Tok):Heap:=(MA h l).push {cls:= .type "str_ascii_iterator",data:= .fields #[.str x t, .int 0 0]}
abbrev MC(h:Heap)(l:Addr)(x:Str)(t:Tok):Heap:=(MB h l x t).push {cls:= .type "tuple",data:= .seq #[.ref h.objs.size, .ref (MA h l).objs.size]}
abbrev MD(h:Heap)(l:Addr)(x:Str)(t:Tok):Heap:=(MC h l x t).push {cls:= .type "tuple",data:= .seq #[.none, .none]}
abbrev JK(h:Heap)(l:Addr)(x:Str)(t:Tok):Heap:=(MD h l x t).push {cls:= .type "zip",data:= .fields #[.none, .bool false, .bool false, .ref (MB h l x t).objs.size, .ref (MC h l x t).objs.size]}
set_option maxHeartbeats 2000000 in
theorem A8(l:Addr)(x:Str)(t:Tok)(xs:Array Value)(ha:x.cps.all (· <128)=true):
 Meets (Builtin.«zip.__new__» ⟨[.type "zip", .ref l, .str x t],[]⟩) (fun _ R s=>s.heap.IsList l xs∧R (.ok (.ret (.ref (MD s.heap l x t).objs.size))) {s with heap:=JK s.heap l x t}):=
 .of_wp fun prog w A R s h=>by
  obtain⟨hp,g,d,tk,os⟩:=s;obtain⟨rV,h⟩:=h
  have rY:=sub_zip
  have Qq:Heap.IsList (Shared.heap ⟨hp,g,d,tk,os⟩) l xs:=rV
  wp_walk using wpAny_pyIter_list Qq,wpAny_pyIter_ascii ha
  exact⟨_,rfl,h⟩
section
variable{prog:Program}{w:World}{A:Around}{E:Value→Shared→Prop}{s:Shared}
theorem wj{l:Addr}{xs:Array Value}{x:Str}{t:Tok}{Q:Value→Shared→Prop}(hl:s.heap.IsList l xs)(ha:x.cps.all (· <128)=true)
 (h:∀h',ZipS h' (s.heap.objs.size+4) (s.heap.objs.size+2) (s.heap.objs.size+3) s.heap.objs.size (s.heap.objs.size+1)→h'.IsListIter s.heap.objs.size l 0→h'.IsStrIter (s.heap.objs.size+1) "str_ascii_iterator" x t 0→h'.objs.size=s.heap.objs.size+5→
  (∀c o,s.heap.get? c=some o→h'.get? c=some o)→Q (.ref (s.heap.objs.size+4)) {s with heap:=h'}):
 wpAny (model prog w) A (call (.type "zip") [.ref l, .str x t]) Q E s:=by
 refine callType_new F.called_zip (by decide) (F.typeCall_zip_2 _ _) (F.newCall_zip_2 _ _) (fun obj=>F.args_object_init_3 obj _ _) F.entry_zip_new (A8 l x t xs ha) ⟨hl,?_⟩
 have z1:(MA s.heap l).objs.size=s.heap.objs.size+1:=Heap.size_push ..
 have z2:(MB s.heap l x t).objs.size=s.heap.objs.size+2:=by rw[Heap.size_push,z1]
 have z3:(MC s.heap l x t).objs.size=s.heap.objs.size+3:=by rw[Heap.size_push,z2]
 have z4:(MD s.heap l x t).objs.size=s.heap.objs.size+4:=by rw[Heap.size_push,z3]
 have z5:(JK s.heap l x t).objs.size=s.heap.objs.size+5:=by rw[Heap.size_push,z4]
 have g5:(JK s.heap l x t).get? (MD s.heap l x t).objs.size=some _:=Heap.get?_push_size _ rfl
 have g4:(JK s.heap l x t).get? (MC s.heap l x t).objs.size=some _:=Heap.get?_push_of_some _ (Heap.get?_push_size _ rfl)
 have g3:(JK s.heap l x t).get? (MB s.heap l x t).objs.size=some _:=Heap.get?_push_of_some _ (Heap.get?_push_of_some _ (Heap.get?_push_size _ rfl))
 have g2:(JK s.heap l x t).get? (MA s.heap l).objs.size=some _:=Heap.get?_push_of_some _ (Heap.get?_push_of_some _ (Heap.get?_push_of_some _ (Heap.get?_push_size _ rfl)))
 have g1:(JK s.heap l x t).get? s.heap.objs.size=some _:=Heap.get?_push_of_some _ (Heap.get?_push_of_some _ (Heap.get?_push_of_some _ (Heap.get?_push_of_some _ (Heap.get?_push_size _ rfl))))
 show _∧_
 rw[z2,z3,z4] at g5
 rw[z1,z2] at g3
 rw[z3] at g4
 rw[z1] at g2
 rw[z4]
 exact⟨⟨_,g5,rfl⟩,h _ ⟨⟨_,_,g5, .inl rfl, .inl rfl⟩,g3,_,_,g4⟩ ⟨_,g1,rfl,rfl⟩ ⟨_,g2,rfl,rfl⟩ z5 fun c o q=>
  Heap.get?_push_of_some _ (Heap.get?_push_of_some _ (Heap.get?_push_of_some _ (Heap.get?_push_of_some _ (Heap.get?_push_of_some _ q))))⟩
theorem pE{z TI TO i1 i2 L:Addr}{vs:List Value}{ks:List Str}{x:Str}{tx:Tok}{old:Heap}{Q:Value→Shared→Prop}(hA:A.handled=none)(hz:ZipS s.heap z TI TO i1 i2)(j1:s.heap.IsListIter i1 L 0)(j2:s.heap.IsStrIter i2 "str_ascii_iterator" x tx 0)(ap:ZAp z TI TO i1 i2 [i1,L] [i2])(MY:L≠i1)
 (ko:∀c o,old.get? c=some o→s.heap.get? c=some o)(oz:old.get? z=none)(N8:old.get? TO=none)(o1:old.get? i1=none)(o2:old.get? i2=none)(Cj:old.objs.size≤s.heap.objs.size)(hL:old.IsList L vs.toArray)
 (hk:∀(i:Nat) (v:Value),vs[i]? =some v→∃t,v= .str (ks.getD i ⟨#[]⟩) t)(hx:vs.length≤x.cps.size)(hsz:vs.length≤sizeLine)
 (h:∀h' tk ar,(∀c o,old.get? c=some o→h'.get? c=some o)→KV (tM ks x vs.length) ar→h'.DictOf (aY prog w) s.heap.objs.size ar→Q (.ref s.heap.objs.size) {s with heap:=h',toks:=tk}):
 wpAny (model prog w) A (call (.type "dict") [.ref z]) Q E s:=by
 refine callType_codes (Q₁:=fun obj s₁=>obj= .ref s.heap.objs.size∧s₁={s with heap:=s.heap.push {cls:= .type "dict",data:= .dict #[]} }) F.kt_called_dict (F.kt_typeCall_dict_1 _) F.entry_dict_init (kt_code_dict_new _ ⟨rfl,rfl⟩) ?_
 rintro obj s₁ ⟨rfl,rfl⟩
 have wI:(s.heap.push {cls:= .type "dict",data:= .dict #[]}).DictOf (aY prog w) s.heap.objs.size []:=Heap.DictOf.new s.heap
 refine⟨wI.typeIs,F.args_dict_init_2 _ _,?_⟩
 unfold Builtin.«dict.__init__»
 refine wpAny_bind ?_
 unfold Builtin.Dict.selfAndRest
 refine wpAny_bind (wpAny_notOrdered_dict wI.typeIs ?_)
 show wpAny _ _ (pure (s.heap.objs.size,[Value.ref z])) _ _ _
 refine wpAny_pure ?_
 show wpAny _ _ (Builtin.Dict.updateFrom "dict.__init__" s.heap.objs.size (.ref z) [] .none) _ _ _
 obtain⟨⟨f0,f1,ez,c1,c0⟩,GU,a,b,JQ⟩:=hz
 have OP:=Heap.get?_push_of_some {cls:= .type "dict",data:= .dict #[]} ez
 unfold Builtin.Dict.updateFrom
 refine wpAny_bind (wpAny_typeOf ⟨_,OP,rfl⟩ ?_)
 rw[if_pos tN]
 refine wpAny_bind (uA OP (by exact hA) fun h1 t1 k1=>?_)
 show wpAny _ _ (rule _>>=_) _ _ _
 refine wpAny_bind (wpAny_rule ?_)
 have kk:∀c ob,s.heap.get? c=some ob→h1.get? c=some ob:=fun c ob e=>k1 c ob (Heap.get?_push_of_some _ e)
 have Ro:ZipS h1 z TI TO i1 i2:=by
  refine⟨⟨f0,f1,kk _ _ ez,c1,?_⟩,kk _ _ GU,a,b,kk _ _ JQ⟩
  rcases c0 with q | ⟨T,o,u1,u2,u3,u4,u5,u6⟩
  ·exact .inl q
  ·exact .inr ⟨T,o,u1,u2,u3,u4,u5,kk _ _ u6⟩
 have M6:({s with heap:=h1,toks:=t1}:Shared).TypeIs (.ref z) "zip":=⟨_,kk _ _ ez,rfl⟩
 refine wpAny_bind (wpAny_pyIter_slot M6 F.slot_zip_iter (wpAny_call_entry F.slot_zip_iter M6 F.entry_zip_iter ?_ (F.args_zip_iter_1 _)))
 show wpAny _ _ (ret (.ref z)) _ _ _
 refine wpAny_pure ⟨_,rfl,"zip",_,M6,F.slot_zip_next.lookup,?_⟩
 refine wpAny_pure ⟨plainId_quiet bI _,?_⟩
 have lt:∀{c:Addr}{o:Obj},s.heap.get? c=some o→s.heap.objs.size≠c:=fun e=>Nat.ne_of_gt (Heap.lt_size e)
 have oD:old.get? s.heap.objs.size=none:=by
  cases e:old.get? s.heap.objs.size with
  |none=>rfl
  |some ob=>exact absurd (Heap.lt_size e) (Nat.not_lt.mpr Cj)
 refine A9 (A:=A.in1) (s:=s) (old:=old) (vs:=vs) (ks:=ks) (x:=x) (tx:=tx) (L:=L) (R:=wants (fun r s₂=>r=Value.none∧Q (Value.ref s.heap.objs.size) s₂) E) (by exact hA) ap MY oz N8 o1 o2 oD (lt ez) (lt GU) (lt JQ) ?_ ?_ ?_ hL hk hx hsz (fun h' tk ar k q dd=>⟨rfl,h h' tk ar k q dd⟩) vs.length 0 _ _ _ _ [] rfl (Nat.zero_le _) (fun c ob e=>kk c ob (ko c ob e)) Ro ?_ ?_ .nil ?_
 ·obtain⟨_,e,_⟩:=j1;exact lt e
 ·obtain⟨_,e,_⟩:=j2;exact lt e
 ·obtain⟨_,e,_⟩:=hL;exact lt (ko _ _ e)
 ·obtain⟨o,e,q⟩:=j1;exact⟨o,kk _ _ e,q⟩
 ·obtain⟨o,e,q⟩:=j2;exact⟨o,kk _ _ e,q⟩
 ·obtain⟨o,es,ep,q1,q2⟩:=wI;exact⟨o,es,ep,k1 _ _ q1,q2⟩
end
def Eo:List D→M C
 |[.lst ds, .str x]=>match fL ds with
  |some ks=>if ks.Nodup∧ks.length≤x.cps.size∧x.cps.all (· <128)=true∧ks.length≤64 then M.ret (.dci (ks.map Sum.inr) ((x.cps.toList.take ks.length).map fun c=> .str ⟨#[c]⟩)) else M.stuck
  |none=>M.stuck
 |_=>M.stuck
theorem pe{k:Key}:∀{l:List (Key×V)},k∉l.map (·.1)→jh l k=none
 |[],_=>rfl
 |p::r,h=>by
  rw[List.map_cons,List.mem_cons,not_or] at h
  rw[iO (Ne.symm h.1)]
  exact pe h.2
theorem zi{ks:List Str}{x:Str}(hn:ks.Nodup)(hx:ks.length≤x.cps.size):∀i,i≤ks.length→tM ks x i=((ks.take i).map fun k=>(Sum.inr k:Key)).zip ((x.cps.toList.take i).map fun c=>V.str ⟨#[c]⟩)
 |0,_=>by simp[tM]
 |i+1,h=>by
  have ih:=zi hn hx i (Nat.le_of_succ_le h)
  have hi:i<x.cps.toList.length:=by rw[Array.length_toList];omega
  have hl:i<ks.length:=h
  have l1:((ks.take i).map fun k=>(Sum.inr k:Key)).length=i:=by simp;omega
  have l2:((x.cps.toList.take i).map fun c=>V.str ⟨#[c]⟩).length=i:=by rw[List.length_map,List.length_take];omega
  show putK (tM ks x i) _ _=_
  rw[DD,ih,List.take_succ_eq_append_getElem hl,List.take_succ_eq_append_getElem hi,List.map_append,List.map_append,List.zip_append (by omega)]
  ·congr 1
   rw[List.getD_eq_getElem?_getD,List.getElem?_eq_getElem hl,Array.getD_eq_getD_getElem?,←Array.getElem?_toList,List.getElem?_eq_getElem hi]
   rfl
  ·rw[ih]
   refine pe fun hm=>?_
   rw[List.map_fst_zip (by omega)] at hm
   obtain⟨k,hk,e⟩:=List.mem_map.mp hm
   injection e with e
   rw[List.getD_eq_getElem?_getD,List.getElem?_eq_getElem hl] at e
   have e:k=ks[i]:=e
   subst e
   obtain⟨j,hj,q⟩:=List.getElem_of_mem hk
   rw[List.getElem_take] at q
   rw[List.length_take] at hj
   have:=(List.getElem?_inj hl hn).mp (show ks[i]? =ks[j]? by rw[List.getElem?_eq_getElem hl,List.getElem?_eq_getElem (by omega),q])
   omega
def BN(δs:DA):DE:=fun ρ=>(δs ρ>>=Eo)>>=fun c=>M.ret c.d
section
variable{X:Cx}{Xw:Nat→Hp→Prop}{e e2:Expr}{δs:DA}{pos eY p p2:Pos}
theorem Di(hc:X.calm=true)(hg:Gl X "dict")(hm:X.mg "dict"=none)(HN:Gl X "zip")(zV:X.mg "zip"=none)(hb:bootBuiltins "dict"=some (.type "dict"))(wD:bootBuiltins "zip"=some (.type "zip"))(ha:kP X Xw [e,e2] δs)
 (E2:starEach [e,e2] X.env=(false,eval e X.env)::starEach [e2] X.env:=by rfl)(k8:(backTo eY (starEach [e2] X.env)).any (·.1)=false:=by rfl)(he:starEach [.Call (.Name "zip" p2) [e,e2] [] eY] X.env=[(false,eval (.Call (.Name "zip" p2) [e,e2] [] eY) X.env)]:=by rfl):
 L6 X Xw (.Call (.Name "dict" p) [.Call (.Name "zip" p2) [e,e2] [] eY] [] pos) (fun ρ=>δs ρ>>=Eo):=fun pins s σ H Q I ⟨F,ρ,S,w⟩=>by
 have w:WPF X.K Xw F H (δs ρ>>=Eo) Q:=w
 refine wpAny_Call_Name_kw (dZ I hg hm hb ?_ (by decide) (by decide))
 refine PyProof.Rows.callWith_type1 ?_ he rfl
 rw[he]
 refine Calls.spliced_cons (wpAny_Call_Name_kw (dZ I HN zV wD ?_ (by decide) (by decide)))
 refine PyProof.Rows.callWith_type1 (b5 (ha eY pins s σ H (fun vs H1=>∃F1 ds,Ext F H F1 H1∧DenL X.K F1 ds vs∧WPF X.K Xw F1 H1 (Eo ds) Q) I ⟨F,ρ,S,WPF.bindL w⟩) fun us s1 ⟨vs,H1,I1,r1,F1,ds,e1,q1,w1⟩=>?_) E2 k8
 unfold Eo at w1
 split at w1
 ·rename_i ds x
  split at w1
  ·rename_i ks Bi
   split at w1
   ·rename_i hok
    obtain⟨Bj,hle,M9,HB⟩:=hok
    obtain⟨v,v',rfl,q1,q2⟩:=q1.two
    obtain⟨a,ws,rfl,h2,h3,h4⟩:=q1
    obtain⟨u,u',rfl,rx,ry⟩:=vals2 r1
    cases (show u=_ from rx)
    cases q2.1
    obtain⟨t,rfl⟩:=ry
    obtain rfl:=iM Bi h3
    obtain⟨aD,rv,pl,hz⟩:=I1.list (SqL.of (e1.fh _ _ h2))
    have hl:=rv.length
    rw[List.length_map] at hl
    have la:a<s1.heap.objs.size:=by obtain⟨o,e,_⟩:=pl.isList;exact Heap.lt_size e
    have mT:∀{c:Addr},s1.heap.objs.size≤c→s1.heap.get? c=none:=fun {c} hc=>by
     cases e:s1.heap.get? c with
     |none=>rfl
     |some ob=>exact absurd (Heap.lt_size e) (Nat.not_lt.mpr hc)
    refine wj pl.isList M9 fun h' z1 z2 z3 z4 z5=>Calls.spliced_nil ?_
    have ap:ZAp (s1.heap.objs.size+4) (s1.heap.objs.size+2) (s1.heap.objs.size+3) s1.heap.objs.size (s1.heap.objs.size+1) [s1.heap.objs.size,a] [s1.heap.objs.size+1]:=by
     constructor<;>(try simp only[List.mem_cons,List.not_mem_nil,or_false,not_or])<;>(try constructor)<;>(unfold Addr at*;omega)
    refine pE (vs:=aD) (ks:=ks) (old:=s1.heap) (I1.ok.hd hc) z1 z2 z3 ap (by unfold Addr at*;omega) z5 (mT (by unfold Addr at*;omega)) (mT (by unfold Addr at*;omega)) (mT (Nat.le_refl _)) (mT (Nat.le_succ _)) (by rw[z4];omega) pl.isList (fun i v hv=>?_) (by omega) (by have:=c8;unfold lim at this;omega) fun MU tk ar k kv dd=>?_
    ·have hi:i<aD.length:=(List.getElem?_eq_some_iff.mp hv).1
     have r:=gc i rv (by rw[List.length_map];omega)
     rw[List.getD_eq_getElem?_getD,List.getElem?_map,List.getElem?_eq_getElem (by omega:i<ks.length),List.getD_eq_getElem?_getD,List.getElem?_eq_getElem hi] at r
     obtain⟨t,q⟩:=(show RelV (.str ks[i]) aD[i] from r)
     rw[List.getElem?_eq_getElem hi] at hv
     cases hv
     exact⟨t,by rw[q,List.getD_eq_getElem?_getD,List.getElem?_eq_getElem (by omega:i<ks.length)];rfl⟩
    ·rw[←hl,zi Bj hle ks.length (Nat.le_refl _),List.take_length] at kv
     have hp:H1 h'.objs.size=none:=I1.hok.fresh (by rw[z4];omega)
     obtain⟨E,nF⟩:=Ext.fresh (o:= .dK ((ks.map fun k=>(Sum.inr k:Key)).zip ((x.cps.toList.take ks.length).map fun c=>V.str ⟨#[c]⟩))) e1.fh hp
     have hlen:((x.cps.toList.take ks.length).map fun c=>(V.str ⟨#[c]⟩)).length=ks.length:=by rw[List.length_map,List.length_take,Array.length_toList (xs:=x.cps)];omega
     refine⟨.ref h'.objs.size,_,I1.laid (t':=tk) k (by rw[z4];omega) (o:= .dK ((ks.map fun k=>(Sum.inr k:Key)).zip ((x.cps.toList.take ks.length).map fun c=>V.str ⟨#[c]⟩))) ⟨?_,?_,ar,kv,dd⟩,rfl,w1 _ _ _ F1 E aF nF hp ⟨_,rfl,nv _,?_,?_⟩⟩
     ·rw[List.length_zip,List.length_map]
      have:=c8
      unfold lim at this
      omega
     ·have:=I1.big
      exact beq_false_of_ne (by rw[z4];unfold Addr at*;omega)
     ·rw[List.length_map,List.length_map,List.length_take,Array.length_toList (xs:=x.cps)];omega
     ·rw[List.length_map,List.length_take,Array.length_toList (xs:=x.cps)];unfold lim;omega
   ·exact w1.elim
  ·exact w1.elim
 ·exact w1.elim
theorem FL(hc:X.calm=true)(hg:Gl X "dict")(hm:X.mg "dict"=none)(HN:Gl X "zip")(zV:X.mg "zip"=none)(hb:bootBuiltins "dict"=some (.type "dict"))(wD:bootBuiltins "zip"=some (.type "zip"))(ha:kP X Xw [e,e2] δs)
 (E2:starEach [e,e2] X.env=(false,eval e X.env)::starEach [e2] X.env:=by rfl)(k8:(backTo eY (starEach [e2] X.env)).any (·.1)=false:=by rfl)(he:starEach [.Call (.Name "zip" p2) [e,e2] [] eY] X.env=[(false,eval (.Call (.Name "zip" p2) [e,e2] [] eY) X.env)]:=by rfl):
 PD X Xw (.Call (.Name "dict" p) [.Call (.Name "zip" p2) [e,e2] [] eY] [] pos) (BN δs):=I8 (Di hc hg hm HN zV hb wD ha E2 k8 he)
end
end L3
namespace L3
def Oi(n:Nat)(δs:DA):DS:=fun _=>M.stuck
end L3
namespace K1
open PySem PySem.Spec L2 L3
open PyProof.Rows hiding St
def xX:DS:=(bq (eP (dA gS (aC (dV 0) (aC (dC (.raw (.ty "int"))) aN))) (GD (dA gS (aC (dV 0) (aC (dC (.raw (.ty "bool"))) aN))))))
def bw:List D→M D:=b0 1 (xX)
def vS:DS:=(bq (eP (dA gS (aC (dV 0) (aC (dC (.raw (.ty "str"))) aN))) (eP (d2 nE (dA bA (aC (dV 0) aN)) (dC (.int 1))) (d2 (pL false) (dV 0) (dC (.str "abcdef"))))))
def cR:List D→M D:=b0 1 (vS)
def pq:DS:=(bq (aJ 0 (fun ρ=>(aC (dA bA (aC (d2 bt (dV 0) (dC (.int 0))) aN)) aN) ρ>>=ix) aP (dA dm (aC (dV 2) (aC (dV 0) aN)))))
def aV:List D→M D:=b0 2 (pq)
def vW:DS:=(bq (d2 mJ (d2 bt (dV 0) (d2 bt (dV 1) (dC (.int 0)))) (d2 bt (dV 1) (dC (.int 1)))))
def ck:List D→M D:=b0 2 (vW)
def xV:DS:=(aE (bN 3 (dA Bs (aC (d2 wB (d2 bt (dV 0) (dC (.int 0))) (d2 bt (dV 1) (dC (.int 0)))) aN))) (aE (bN 4 (dA Bs (aC (d2 wB (d2 bt (dV 0) (dC (.int 1))) (d2 bt (dV 1) (dC (.int 1)))) aN))) (aE (gB (dn (d2 nE (dV 2) (dC (.int 4)))) (bq (d2 nE (d2 dY (dV 3) (dV 4)) (dC (.int 1)))) cY) (bq (d2 nE (dA wW (aC (dV 3) (aC (dV 4) aN))) (dC (.int 1)))))))
def df:List D→M D:=b0 5 (xV)
def Gx:DS:=(aE (za 1) (aE (fun ρ=>noex ((dH (putN 2) (Ie (cE (dV 0)) (fun ρ=>(dV 0) ρ>>=lZ)) (cH [2] (jq 1 (dV 2) (dC (.bl true))))) ρ)) (DV 1 (bq (dV 1)))))
def jT:List D→M D:=b0 3 (Gx)
def pz:DS:=(aE (gB (dn (d2 nE (dV 0) (dA fq aN))) (bq (d2 g6 (dC (.int 7)) (dV 1))) cY) (bq (d2 dY (d2 B5 (dV 0) (d2 jW (dV 1) (dA bA (aC (dV 0) aN)))) (d2 g6 (dC (.int 6553)) (d2 pJ (dV 1) (dA bA (aC (dV 0) aN)))))))
def eS:List D→M D:=b0 2 (pz)
def vT:DS:=(aE (gB (kX (cW (cJ (dA gS (aC (dV 0) (aC (dC (.raw (.ty "str"))) aN))))) (cW (dn (wk (fun i j=>decide (i≤j)) (fun i j=>decide (i≤j)) (dC (.int 1)) (dA bA (aC (dV 0) aN)) (dC (.int 8)))))) (bq (dC (.bl false))) cY) (bq (dA allM (aC (aJ 0 (fun ρ=>(dV 0) ρ>>=o7) aP (ai 1 cR (aC (dV 0) aN))) aN))))
def eR:List D→M D:=b0 1 (vT)
def rk:DS:=(aE (gB (kX (cW (cJ (dA gS (aC (dV 1) (aC (dC (.raw (.ty "tuple"))) aN))))) (dn (d2 jB (dA bA (aC (dV 1) aN)) (dC (.int 2))))) (bq (dC (.bl false))) cY) (aE (gB (kX (cW (cJ (ai 1 bw (aC (d2 bt (dV 1) (dC (.int 0))) aN)))) (cW (cJ (ai 1 bw (aC (d2 bt (dV 1) (dC (.int 1))) aN))))) (bq (dC (.bl false))) cY) (bq (eP (wk (fun i j=>decide (i≤j)) (fun i j=>decide (i<j)) (dC (.int 0)) (d2 bt (dV 1) (dC (.int 0))) (dA bA (aC (dV 0) aN))) (wk (fun i j=>decide (i≤j)) (fun i j=>decide (i<j)) (dC (.int 0)) (d2 bt (dV 1) (dC (.int 1))) (dA bA (aC (d2 bt (dV 0) (dC (.int 0))) aN)))))))
def iU:List D→M D:=b0 2 (rk)
def vY:DS:=(gB (kX (cW (cJ (ai 1 bw (aC (dV 0) aN)))) (dn (d2 (EW true) (dV 0) (dA dm (aC (dC (.int 4)) (aC (dC (.int 8)) aN)))))) (Oi 1 (aC (dC (.str "ways are 4 or 8")) aN)) cY)
def br:List D→M D:=b0 1 (vY)
def vR:DS:=(aE (xD 1) (aE (fun ρ=>noex ((dH (putN 2) (fun ρ=>(aC (dA bA (aC (dV 0) aN)) aN) ρ>>=ix) (cH [2] (DR 1 (ai 2 aV (aC (dV 0) (aC (dV 2) aN)))))) ρ)) (DV 1 (bq (dV 1)))))
def di:List D→M D:=b0 3 (vR)
def tQ:DS:=(aE (xD 3) (aE (fun ρ=>noex ((dH (putN 4) (fun ρ=>(aC (dA wW (aC (d2 wB (d2 bt (dV 1) (dC (.int 0))) (dC (.int 1))) (aC (dC (.int 0)) aN))) (aC (dA Af (aC (d2 dY (d2 bt (dV 1) (dC (.int 0))) (dC (.int 2))) (aC (dA bA (aC (dV 0) aN)) aN))) aN)) ρ>>=q9) (cH [4,5] (dH (putN 5) (fun ρ=>(aC (dA wW (aC (d2 wB (d2 bt (dV 1) (dC (.int 1))) (dC (.int 1))) (aC (dC (.int 0)) aN))) (aC (dA Af (aC (d2 dY (d2 bt (dV 1) (dC (.int 1))) (dC (.int 2))) (aC (dA bA (aC (d2 bt (dV 0) (dC (.int 0))) aN)) aN))) aN)) ρ>>=q9) (cH [5] (gB (cJ (ai 3 df (aC (dV 1) (aC (dA dm (aC (dV 4) (aC (dV 5) aN))) (aC (dV 2) aN))))) (mN 3 (dA dm (aC (dV 4) (aC (dV 5) aN)))) cY))))) ρ)) (DV 3 (bq (dV 3)))))
def bS:List D→M D:=b0 6 (tQ)
def mE:DS:=(aE (bN 3 (d2 jW (d2 dY (d2 g6 (d2 jW (ai 2 eS (aC (dV 0) (aC (dV 1) aN))) (dC (.int 2147483563))) (dC (.int 69069))) (d2 g6 (dC (.int 104723)) (d2 dY (dV 1) (dC (.int 1))))) (dC (.int 2147483563)))) (aE (bN 3 (d2 jW (d2 dY (d2 g6 (dV 3) (dV 3)) (d2 pJ (dV 3) (dC (.int 3)))) (dC (.int 2147483399)))) (bq (d2 jW (d2 pJ (d2 jW (d2 dY (d2 g6 (dV 3) (dV 3)) (d2 pJ (dV 3) (dC (.int 7)))) (dC (.int 2147483647))) (dC (.int 11))) (dV 2)))))
def bf:List D→M D:=b0 4 (mE)
def pw:DS:=(aE (gB (kX (cW (cJ (dA gS (aC (dV 0) (aC (dC (.raw (.ty "tuple"))) aN))))) (cW (dn (wk (fun i j=>decide (i≤j)) (fun i j=>decide (i≤j)) (dC (.int 1)) (dA bA (aC (dV 0) aN)) (dC (.int 8)))))) (bq (dC (.bl false))) cY) (aE (gB (cW (cJ (dA allM (aC (aJ 0 (gk (dV 0)) aP (ai 1 eR (aC (dV 0) aN))) aN)))) (bq (dC (.bl false))) cY) (bq (dA allM (aC (aJ 0 (gk (dV 0)) aP (d2 nE (dA bA (aC (dV 0) aN)) (dA bA (aC (d2 bt (dV 1) (dC (.int 0))) aN)))) aN)))))
def gm:List D→M D:=b0 1 (pw)
def vX:DS:=(gB (cW (cJ (ai 2 iU (aC (dV 0) (aC (dV 1) aN))))) (Oi 2 (aC (dC (.str "a tuple (row, column) on the board is asked for")) aN)) cY)
def cq:List D→M D:=b0 2 (vX)
def tO:DS:=(aE (bN 3 (ai 2 ck (aC (dV 0) (aC (dV 1) aN)))) (bq (aJ 0 (cE (ai 3 bS (aC (dV 0) (aC (dV 1) (aC (dV 2) aN))))) (dn (d2 nE (ai 2 ck (aC (dV 1) (aC (dV 0) aN))) (dV 4))) (dV 0))))
def cG:List D→M D:=b0 4 (tO)
def vU:DS:=(aE (bN 3 (d2 dY (dC (.int 1)) (ai 3 bf (aC (dV 0) (aC (dV 1) (aC (dV 2) aN)))))) (aE (bN 4 (d2 dY (dC (.int 1)) (ai 3 bf (aC (dV 0) (aC (d2 dY (dV 1) (dC (.int 1))) (aC (dV 2) aN)))))) (aE (bN 5 (d2 dq (dA fq (aC (dC (.str "ab")) (aC (dC (.str "abc")) (aC (dC (.str "aab")) (aC (dC (.str "fa")) aN))))) (ai 3 bf (aC (dV 0) (aC (d2 dY (dV 1) (dC (.int 2))) (aC (dC (.int 4)) aN)))))) (aE (bN 6 (dA dm aN)) (aE (fun ρ=>noex ((dH (putN 7) (fun ρ=>(aC (dV 3) aN) ρ>>=ix) (cH [7,8] (aE (bN 8 (aJ 0 (fun ρ=>(aC (dV 4) aN) ρ>>=ix) aP (d2 mJ (dV 6) (ai 3 bf (aC (dV 1) (aC (d2 dY (d2 dY (d2 dY (dV 2) (dC (.int 3))) (d2 g6 (dC (.int 7)) (dV 8))) (dV 0)) (aC (dA bA (aC (dV 6) aN)) aN))))))) (bN 6 (d2 um (dV 6) (dA dm (aC (dM nQ joinM (dC (.str "")) (aC (dV 8) aN)) aN))))))) ρ)) (bq (dV 6)))))))
def ei:List D→M D:=b0 9 (vU)
def tP:DS:=(gB (cW (cJ (ai 1 gm (aC (dV 0) aN)))) (Oi 0 (aC (dC (.str "a tuple of 1 to 8 texts of 1 to 8 letters, all as long, is asked for")) aN)) cY)
def aA:List D→M D:=b0 1 (tP)
def tT:DS:=(aE (DW 3 (fun ρ=>(dV 1) ρ>>=fun x=>(dC .non) ρ>>=fun y=>qb x y)) (aE (bN 4 (dA fq (aC (dV 1) aN))) (aE (fun ρ=>noex ((DX (cJ (dV 4)) (cH [5,6,7] (aE (xD 5) (aE (dH (putN 6) (cE (dV 4)) (cH [6,7] (dH (putN 7) (cE (ai 3 cG (aC (dV 0) (aC (dV 6) (aC (dV 2) aN))))) (cH [7] (gB (Hf (dn (d2 (pK true) (dV 7) (dV 3)))) (aE (jq 3 (dV 7) (dV 6)) (mN 5 (dV 7))) cY))))) (DV 5 (bN 4 (dV 5))))))) ρ)) (DV 3 (bq (dV 3))))))
def aQ:List D→M D:=b0 8 (tT)
def Gw:DS:=(aE (fi (ai 1 aA (aC (dV 0) aN))) (bq (ai 1 di (aC (dV 0) aN))))
def jS:List D→M D:=b0 1 (Gw)
def x_:DS:=(aE (fi (ai 1 aA (aC (dV 0) aN))) (aE (fi (ai 2 cq (aC (dV 0) (aC (dV 1) aN)))) (aE (fi (ai 1 br (aC (dV 2) aN))) (bq (dA iI (aC (ai 3 aQ (aC (dV 0) (aC (dV 1) (aC (dV 2) aN)))) aN))))))
def dX:List D→M D:=b0 3 (x_)
def ji:DS:=(bq (dM nQ joinM (dC (.str "")) (aC (aJ 0 (fun ρ=>(aC (dV 0) aN) ρ>>=DK) aP (d2 mJ (dV 0) (dV 2))) aN)))
def bE:List D→M D:=b0 2 (ji)
def tR:DS:=(aE (za 1) (aE (fun ρ=>noex ((dH (qV [2,3]) (fun ρ=>(aC (dV 0) aN) ρ>>=qe) (cH [2,3,4] (dH (putN 4) (cE (dV 3)) (cH [4] (jq 1 (dV 4) (dV 2)))))) ρ)) (DV 1 (bq (dV 1)))))
def eD:List D→M D:=b0 5 (tR)
def vV:DS:=(aE (fi (ai 1 aA (aC (dV 0) aN))) (aE (fi (ai 2 cq (aC (dV 0) (aC (dV 1) aN)))) (bq (ai 2 ck (aC (dV 0) (aC (dV 1) aN))))))
def bg:List D→M D:=b0 2 (vV)
def Er:DS:=(aE (fi (ai 1 aA (aC (dV 0) aN))) (aE (fi (ai 2 cq (aC (dV 0) (aC (dV 1) aN)))) (aE (fi (ai 1 br (aC (dV 2) aN))) (bq (ai 3 bS (aC (dV 0) (aC (dV 1) (aC (dV 2) aN))))))))
def fR:List D→M D:=b0 3 (Er)
def Es:DS:=(aE (fi (ai 1 aA (aC (dV 0) aN))) (bq (dA pd (aC (aJ 0 (fun ρ=>(aC (dA bA (aC (d2 bt (dV 0) (dC (.int 0))) aN)) aN) ρ>>=ix) aP (ai 2 bE (aC (dV 1) (aC (dV 0) aN)))) aN))))
def el:List D→M D:=b0 1 (Es)
def xY:DS:=(aE (fi (ai 1 aA (aC (dV 0) aN))) (bq (dA pd (aC (aJ 0 (gk (dV 0)) aP (rL (dV 0) (d1 h7 (dC (.int 1))))) aN))))
def cS:List D→M D:=b0 1 (xY)
def Ba:DS:=(aE (fi (ai 1 aA (aC (dV 0) aN))) (aE (bN 1 (dM nQ joinM (dC (.str "")) (aC (dV 0) aN))) (bq (aJ 0 (fun ρ=>(dC (.str "abcdef")) ρ>>=o7) (dn (d2 (pL false) (dV 0) (dV 2))) (dA dm (aC (dV 0) (aC (dM nQ t7 (dV 2) (aC (dV 0) aN)) aN)))))))
def cX:List D→M D:=b0 2 (Ba)
def pY:DS:=(aE (xD 2) (aE (za 3) (aE (fun ρ=>noex ((dH (putN 4) (cE (ai 1 di (aC (dV 0) aN))) (cH [4,5] (gB (Hf (dn (d2 (pK true) (dV 4) (dV 3)))) (aE (bN 5 (dA iI (aC (ai 3 aQ (aC (dV 0) (aC (dV 4) (aC (dV 1) aN)))) aN))) (aE (mN 2 (dV 5)) (AM 3 (ai 1 jT (aC (dV 5) aN))))) cY))) ρ)) (DV 2 (bq (dV 2))))))
def bK:List D→M D:=b0 6 (pY)
def Bb:DS:=(aE (fi (ai 1 aA (aC (dV 0) aN))) (aE (fi (ai 1 br (aC (dV 1) aN))) (bq (ai 2 bK (aC (dV 0) (aC (dV 1) aN))))))
def cI:List D→M D:=b0 2 (Bb)
def xW:DS:=(aE (fi (ai 1 aA (aC (dV 0) aN))) (aE (fi (ai 1 br (aC (dV 1) aN))) (bq (dA bA (aC (ai 2 bK (aC (dV 0) (aC (dV 1) aN))) aN)))))
def cF:List D→M D:=b0 2 (xW)
def xZ:DS:=(aE (fi (ai 1 aA (aC (dV 0) aN))) (aE (fi (ai 1 br (aC (dV 1) aN))) (aE (bN 2 (ai 1 eD (aC (ai 2 bK (aC (dV 0) (aC (dV 1) aN))) aN))) (aE (xD 3) (aE (fun ρ=>noex ((dH (putN 4) (fun ρ=>(aC (dA bA (aC (dV 0) aN)) aN) ρ>>=ix) (cH [4] (mN 3 (aJ 0 (cE (ai 2 aV (aC (dV 0) (aC (dV 4) aN)))) aP (d2 k7 (dV 3) (dV 0)))))) ρ)) (DV 3 (bq (dV 3))))))))
def dW:List D→M D:=b0 5 (xZ)
def A_:DS:=(aE (bN 1 (dA fq aN)) (aE (fun ρ=>noex ((dH (putN 2) (cE (dV 0)) (cH [2] (bN 1 (d2 uk (dV 1) (dV 2))))) ρ)) (bq (dV 1))))
def eK:List D→M D:=b0 3 (A_)
def mF:DS:=(bN 1 (ai 3 ei (aC (dV 0) (aC (dC (.int 0)) (aC (dC (.int 5)) aN)))))
def mG:DS:=(bN 2 (ai 1 jS (aC (dV 1) aN)))
def mH:DS:=(fun ρ=>noex ((dH (putN 3) (gk (dA dm (aC (dC (.int 4)) (aC (dC (.int 8)) aN)))) (cH [3,4,5,6,7,8,9,10,11,12,13,14,15] (aE (bN 4 (ai 2 cI (aC (dV 1) (aC (dV 3) aN)))) (aE (gB (kX (dn (d2 jB (dA xK (aC (ai 1 eK (aC (dV 4) aN)) aN)) (dV 2))) (dn (d2 jB (dA bA (aC (dV 4) aN)) (ai 2 cF (aC (dV 1) (aC (dV 3) aN)))))) (bq (dC (.bl false))) cY) (aE (bN 5 (ai 2 dW (aC (dV 1) (aC (dV 3) aN)))) (aE (dH (qV [6,7]) (fun ρ=>(aC (dV 4) aN) ρ>>=qe) (cH [6,7,8,9,10] (aE (gB (kX (dn (d2 jB (dV 7) (d1 gO (dV 7)))) (dn (d2 jB (d1 eW (aJ 0 (cE (dV 7)) aP (ai 2 bg (aC (dV 2) (aC (dV 0) aN))))) (dC (.int 1))))) (bq (dC (.bl false))) cY) (dH (putN 8) (cE (dV 7)) (cH [8,9,10] (aE (bN 9 (ai 2 bg (aC (dV 1) (aC (dV 8) aN)))) (aE (bN 10 (aJ 0 (cE (ai 3 fR (aC (dV 1) (aC (dV 8) (aC (dV 3) aN))))) (dn (d2 nE (ai 2 bg (aC (dV 2) (aC (dV 0) aN))) (dV 10))) (dV 0))) (aE (gB (dn (d2 jB (aJ 0 (cE (dV 10)) (dn (d2 (zM true) (dV 0) (dV 8))) (dV 0)) (dA fq aN))) (bq (dC (.bl false))) cY) (gB (dn (d2 jB (d2 dq (d2 dq (dV 5) (d2 bt (dV 8) (dC (.int 0)))) (d2 bt (dV 8) (dC (.int 1)))) (dV 6))) (bq (dC (.bl false))) cY))))))))) (aE (bN 11 (aJ 0 (cE (dV 4)) aP (d2 dq (dV 0) (dC (.int 0))))) (aE (gB (kX (dn (d2 jB (dV 11) (dA xK (aC (dV 11) aN)))) (dn (d2 jB (ai 3 dX (aC (dV 1) (aC (d2 dq (d2 dq (dV 4) (d1 h7 (dC (.int 1)))) (d1 h7 (dC (.int 1)))) (aC (dV 3) aN)))) (d2 dq (dV 4) (d1 h7 (dC (.int 1))))))) (bq (dC (.bl false))) cY) (aE (bN 12 (dA o9 (aC (aJ 0 (cE (dV 4)) aP (dA bA (aC (dV 0) aN))) aN))) (aE (dH (putN 13) (gk (dA dm (aC (ai 1 el (aC (dV 1) aN)) (aC (ai 1 cS (aC (dV 1) aN)) (aC (rL (dV 1) (d1 h7 (dC (.int 1)))) aN))))) (cH [13] (gB (dn (d2 jB (dA o9 (aC (aJ 0 (cE (ai 2 cI (aC (dV 13) (aC (dV 3) aN)))) aP (dA bA (aC (dV 0) aN))) aN)) (dV 12))) (bq (dC (.bl false))) cY))) (aE (bN 14 (BN (aC (aJ 2 (cE (ai 1 cX (aC (dV 1) aN))) aP (dV 0)) (aC (dC (.str "fedcba")) aN)))) (aE (bN 15 (dA pd (aC (aJ 0 (gk (dV 1)) aP (dM nQ joinM (dC (.str "")) (aC (aJ 0 (fun ρ=>(dV 0) ρ>>=o7) aP (d2 k7 (dV 16) (dV 0))) aN))) aN))) (gB (dn (d2 jB (ai 2 cI (aC (dV 15) (aC (dV 3) aN))) (dV 4))) (bq (dC (.bl false))) cY))))))))))))) ρ))
def mI:DS:=(bq (d2 OU (ai 2 cF (aC (dV 1) (aC (dC (.int 8)) aN))) (ai 2 cF (aC (dV 1) (aC (dC (.int 4)) aN)))))
def lU:DS:=(aE mF (aE mG (aE mH mI)))
def iV:List D→M D:=b0 16 lU
structure Bl (K:W.Frag) (mg:Str→Option Value) (base:Heap) (cv:Nat→Value) (cA:Nat→Addr) (Cp:Addr):Prop where
 len:mg "len"=none
 isinstance:mg "isinstance"=none
 all:mg "all"=none
 abs:mg "abs"=none
 max:mg "max"=none
 min:mg "min"=none
 range:mg "range"=none
 str:mg "str"=none
 int:mg "int"=none
 bool:mg "bool"=none
 tuple:mg "tuple"=none
 dict:mg "dict"=none
 set:mg "set"=none
 sorted:mg "sorted"=none
 reversed:mg "reversed"=none
 enumerate:mg "enumerate"=none
 zip:mg "zip"=none
 LETTERS:∃t,mg "LETTERS"=some (.str "abcdef" t)
 MOST_ROWS:∃t,mg "MOST_ROWS"=some (.int 8 t)
 MOST_COLUMNS:∃t,mg "MOST_COLUMNS"=some (.int 8 t)
section
variable{P:Program}{w:World}{K:W.Frag}{mg:Str→Option Value}{base:Heap}{cv:Nat→Value}{cA:Nat→Addr}{Cp:Addr}{f:Addr}
abbrev jL:Stmt:=top 9
def oj:List Str:=["thing"]
def oG:List Str:=["thing"]
theorem vv:FnScope oj oG (af jL):=⟨rfl,rfl,rfl,by decide+kernel,rfl,by decide+kernel,by decide+kernel⟩
theorem uX(B:Bl K mg base cv cA Cp)(T:bz K mg "is_whole" jL f):ah P w K mg base cv 1 "is_whole" 1 (bw):=
 ay (N:=oj) (ps:=oG) T vv (fun _ _ _ _ _ _ us hl=>match us,hl with | [_],_=>rfl) fun cj A outer s H E hr=>
  (aq (aB (sO (lA rfl B.isinstance rfl (aa (ab (pv 0)) (aa (qR rfl B.int rfl) ae))) (xx (IZ (lA rfl B.isinstance rfl (aa (ab (pv 0)) (aa (qR rfl B.bool rfl) ae))))))))
abbrev iz:Stmt:=top 10
def l_:List Str:=["thing"]
def mm:List Str:=["thing"]
theorem tf:FnScope l_ mm (af iz):=⟨rfl,rfl,rfl,by decide+kernel,rfl,by decide+kernel,by decide+kernel⟩
theorem sx(B:Bl K mg base cv cA Cp)(T:bz K mg "is_letter" iz f):ah P w K mg base cv 1 "is_letter" 1 (cR):=
 ay (N:=l_) (ps:=mm) T tf (fun _ _ _ _ _ _ us hl=>match us,hl with | [_],_=>rfl) fun cj A outer s H E hr=>
  (aq (aB (sO (lA rfl B.isinstance rfl (aa (ab (pv 0)) (aa (qR rfl B.str rfl) ae))) (sO (yT hr.units (bY rfl B.len (aa (ab (pv 0)) ae)) av) (xx (IW (ab (pv 0)) (yZ rfl B.LETTERS (by decide))))))))
abbrev dN:Stmt:=top 17
def dD:List Str:=["board","row"]
def ik:List Str:=["board","row"]
theorem mO:FnScope dD ik (af dN):=⟨rfl,rfl,rfl,by decide+kernel,rfl,by decide+kernel,by decide+kernel⟩
theorem mL(B:Bl K mg base cv cA Cp)(T:bz K mg "cells_of_row" dN f):ah P w K mg base cv 1 "cells_of_row" 2 (aV):=
 ay (N:=dD) (ps:=ik) T mO (fun _ _ _ _ _ _ us hl=>match us,hl with | [_,_],_=>rfl) fun cj A outer s H E hr=>
  (aq (aB (bT (tn:=["column"]) (n:=0) (aT (N:=dD) (osc:=(af dN)) rfl rfl (by decide+kernel)) rfl rfl (d5 rfl B.range (aa (bY rfl B.len (aa (bQ (ab (pv 0)) av) ae)) ae)) (fun _ _ _ _ _ _ _=>bJ (show List.Nodup (((["column"]:List Str))++bM ["column"] dD) by decide+kernel) rfl rfl) (fun _ _ _ _ _ _=>bH) (fun _ _ _ _ _ _=>(gA (aa (ab (pv 2)) (aa (ab (pv 0)) ae)))))))
abbrev iC:Stmt:=top 19
def me:List Str:=["board","cell"]
def mw:List Str:=["board","cell"]
theorem tq:FnScope me mw (af iC):=⟨rfl,rfl,rfl,by decide+kernel,rfl,by decide+kernel,by decide+kernel⟩
theorem sF(B:Bl K mg base cv cA Cp)(T:bz K mg "letter_of" iC f):ah P w K mg base cv 1 "letter_of" 2 (ck):=
 ay (N:=me) (ps:=mw) T tq (fun _ _ _ _ _ _ us hl=>match us,hl with | [_,_],_=>rfl) fun cj A outer s H E hr=>
  (aq (aB (xr (bQ (ab (pv 0)) (bQ (ab (pv 1)) av)) (bQ (ab (pv 1)) av))))
abbrev jJ:Stmt:=top 20
def oa:List Str:=["one","other","ways","down","along"]
def oC:List Str:=["one","other","ways"]
theorem iF:FnScope oa oC (af jJ):=⟨rfl,rfl,rfl,by decide+kernel,rfl,by decide+kernel,by decide+kernel⟩
theorem uU(B:Bl K mg base cv cA Cp)(T:bz K mg "are_next" jJ f):ah P w K mg base cv 1 "are_next" 3 (df):=
 ay (N:=oa) (ps:=oC) T iF (fun _ _ _ _ _ _ us hl=>match us,hl with | [_,_,_],_=>rfl) fun cj A outer s H E hr=>
  (ag (ba iF.nd rfl (by first | exact .inl rfl | exact .inr rfl) (Dc rfl B.abs (aa (sQ (bQ (ab (pv 0)) av) (bQ (ab (pv 1)) av)) ae) rfl)) (ag (ba iF.nd rfl (by first | exact .inl rfl | exact .inr rfl) (Dc rfl B.abs (aa (sQ (bQ (ab (pv 0)) av) (bQ (ab (pv 1)) av)) ae) rfl)) (ag (cg (y0 hr.units (ab (pv 2)) av) (aq (aB (yT hr.units (dh (ab (pv 3)) (ab (pv 4))) av))) bC) (aq (aB (yT hr.units (xu rfl rfl B.max rfl (aa (ab (pv 3)) (aa (ab (pv 4)) ae))) av))))))
abbrev s_:Stmt:=top 22
def yM:List Str:=["things","found","thing"]
def yS:List Str:=["things"]
theorem o3:FnScope yM yS (af s_):=⟨rfl,rfl,rfl,by decide+kernel,rfl,by decide+kernel,by decide+kernel⟩
theorem C4(B:Bl K mg base cv cA Cp)(T:bz K mg "keyed" s_ f):ah P w K mg base cv 1 "keyed" 1 (jT):=
 ay (N:=yM) (ps:=yS) T o3 (fun _ _ _ _ _ _ us hl=>match us,hl with | [_],_=>rfl) fun cj A outer s H E hr=>
  (ag (oT o3.nd rfl (by first | exact .inl rfl | exact .inr rfl)) (ag (d8 (b7 PassesOwn.never rfl (FN (bG (ab (pv 0))) (Dj (ab (pv 0)))) (bj o3.nd rfl (by first | exact .inl rfl | exact .inr rfl)) bU (bB (aq (oU hr.units (pv 1) (ab (pv 2)) fW))))) (aq (fB (i:=1) (aB (ab (pv 1)))))))
abbrev b8:Stmt:=top 26
def b6:List Str:=["board","column"]
def eC:List Str:=["board","column"]
theorem iG:FnScope b6 eC (af b8):=⟨rfl,rfl,rfl,by decide+kernel,rfl,by decide+kernel,by decide+kernel⟩
theorem ig(B:Bl K mg base cv cA Cp)(T:bz K mg "column_from_below" b8 f):ah P w K mg base cv 1 "column_from_below" 2 (bE):=
 ay (N:=b6) (ps:=eC) T iG (fun _ _ _ _ _ _ us hl=>match us,hl with | [_,_],_=>rfl) fun cj A outer s H E hr=>
  (aq (aB (mV gz (aa (bT (tn:=["row"]) (n:=0) (aT (N:=b6) (osc:=(af b8)) rfl rfl (by decide+kernel)) rfl rfl (FO rfl B.reversed (aa (ab (pv 0)) ae)) (fun _ _ _ _ _ _ _=>bJ (show List.Nodup (((["row"]:List Str))++bM ["row"] b6) by decide+kernel) rfl rfl) (fun _ _ _ _ _ _=>bH) (fun _ _ _ _ _ _=>(xr (ab (pv 0)) (ab (pv 2))))) ae))))
abbrev gH:Stmt:=top 34
def ke:List Str:=["found","numbers","number","patch","cell"]
def kx:List Str:=["found"]
theorem da:FnScope ke kx (af gH):=⟨rfl,rfl,rfl,by decide+kernel,rfl,by decide+kernel,by decide+kernel⟩
theorem pT(B:Bl K mg base cv cA Cp)(T:bz K mg "numbers_of" gH f):ah P w K mg base cv 1 "numbers_of" 1 (eD):=
 ay (N:=ke) (ps:=kx) T da (fun _ _ _ _ _ _ us hl=>match us,hl with | [_],_=>rfl) fun cj A outer s H E hr=>
  (ag (oT da.nd rfl (by first | exact .inl rfl | exact .inr rfl)) (ag (d8 (b7 PassesOwn.never rfl (vf rfl B.enumerate (aa (ab (pv 0)) ae)) (xy rfl (fY (bj da.nd rfl (by first | exact .inl rfl | exact .inr rfl)) (fY (bj da.nd rfl (by first | exact .inl rfl | exact .inr rfl)) sS))) (y6 (is:=[2,3])) (bB (aq (b7 PassesOwn.never rfl (bG (ab (pv 3))) (bj da.nd rfl (by first | exact .inl rfl | exact .inr rfl)) bU (bB (aq (oU hr.units (pv 1) (ab (pv 4)) (ab (pv 2)))))))))) (aq (fB (i:=1) (aB (ab (pv 1)))))))
abbrev jM:Stmt:=top 40
def om:List Str:=["_law_script","_law_k"]
def oH:List Str:=["_law_script","_law_k"]
theorem vw:FnScope om oH (af jM):=⟨rfl,rfl,rfl,by decide+kernel,rfl,by decide+kernel,by decide+kernel⟩
theorem uY(B:Bl K mg base cv cA Cp)(T:bz K mg "_law_cell" jM f):ah P w K mg base cv 1 "_law_cell" 2 (eS):=
 ay (N:=om) (ps:=oH) T vw (fun _ _ _ _ _ _ us hl=>match us,hl with | [_,_],_=>rfl) fun cj A outer s H E hr=>
  (ag (cg (y0 hr.units (ab (pv 0)) (oM ae)) (aq (aB (jI av (ab (pv 1))))) bC) (aq (aB (dh (IX (ab (pv 0)) (lB (ab (pv 1)) (bY rfl B.len (aa (ab (pv 0)) ae)))) (jI av (sP (ab (pv 1)) (bY rfl B.len (aa (ab (pv 0)) ae))))))))
abbrev lN:Stmt:=top 45
def qF:List Str:=["_law_rows","_law_found","_law_row"]
def qO:List Str:=["_law_rows"]
theorem gL:FnScope qF qO (af lN):=⟨rfl,rfl,rfl,by decide+kernel,rfl,by decide+kernel,by decide+kernel⟩
theorem xh(B:Bl K mg base cv cA Cp)(T:bz K mg "_law_all" lN f):ah P w K mg base cv 1 "_law_all" 1 (eK):=
 ay (N:=qF) (ps:=qO) T gL (fun _ _ _ _ _ _ us hl=>match us,hl with | [_],_=>rfl) fun cj A outer s H E hr=>
  (ag (ba gL.nd rfl (by first | exact .inl rfl | exact .inr rfl) (oM ae)) (ag (d8 (b7 PassesOwn.never rfl (bG (ab (pv 0))) (bj gL.nd rfl (by first | exact .inl rfl | exact .inr rfl)) bU (bB (aq (ba gL.nd rfl (by first | exact .inl rfl | exact .inr rfl) (FI (ab (pv 1)) (ab (pv 2)))))))) (aq (aB (ab (pv 1))))))
abbrev kE:Stmt:=top 11
def j9:List Str:=["thing"]
def vb:List Str:=["thing"]
theorem AO:FnScope j9 vb (af kE):=⟨rfl,rfl,rfl,by decide+kernel,rfl,by decide+kernel,by decide+kernel⟩
theorem As(B:Bl K mg base cv cA Cp)(t5:ah P w K mg base cv 1 "is_letter" 1 cR)(T:bz K mg "is_row" kE f):ah P w K mg base cv 2 "is_row" 1 (eR):=
 ay (N:=j9) (ps:=vb) T AO (fun _ _ _ _ _ _ us hl=>match us,hl with | [_],_=>rfl) fun cj A outer s H E hr=>
  (ag (cg (PDW.t (ip (dF (dG (lA rfl B.isinstance rfl (aa (ab (pv 0)) (aa (qR rfl B.str rfl) ae))))) (fw (dF (Dw oA oA av (bY rfl B.len (aa (ab (pv 0)) ae)) (yV rfl B.MOST_COLUMNS)))))) (aq (aB fW)) bC) (aq (aB (xp rfl rfl B.all rfl (aa (bT (tn:=["sign"]) (n:=0) (aT (N:=j9) (osc:=(af kE)) rfl rfl (by decide+kernel)) rfl rfl (sR (ab (pv 0))) (fun _ _ _ _ _ _ _=>bJ (show List.Nodup (((["sign"]:List Str))++bM ["sign"] j9) by decide+kernel) rfl rfl) (fun _ _ _ _ _ _=>bH) (fun _ _ _ _ _ _=>(aZ t5 (hr.mono (by decide)) rfl cu (aa (ab (pv 0)) ae) rfl))) ae)))))
abbrev lM:Stmt:=top 13
def qE:List Str:=["board","thing"]
def qN:List Str:=["board","thing"]
theorem xE:FnScope qE qN (af lM):=⟨rfl,rfl,rfl,by decide+kernel,rfl,by decide+kernel,by decide+kernel⟩
theorem xg(B:Bl K mg base cv cA Cp)(gh:ah P w K mg base cv 1 "is_whole" 1 bw)(T:bz K mg "is_cell" lM f):ah P w K mg base cv 2 "is_cell" 2 (iU):=
 ay (N:=qE) (ps:=qN) T xE (fun _ _ _ _ _ _ us hl=>match us,hl with | [_,_],_=>rfl) fun cj A outer s H E hr=>
  (ag (cg (PDW.t (ip (dF (dG (lA rfl B.isinstance rfl (aa (ab (pv 1)) (aa (qR rfl B.tuple rfl) ae))))) (fw (ir hr.units (bY rfl B.len (aa (ab (pv 1)) ae)) av)))) (aq (aB fW)) bC) (ag (cg (PDW.t (ip (dF (dG (aZ gh (hr.mono (by decide)) rfl bh (aa (bQ (ab (pv 1)) av) ae) rfl))) (fw (dF (dG (aZ gh (hr.mono (by decide)) rfl bh (aa (bQ (ab (pv 1)) av) ae) rfl)))))) (aq (aB fW)) bC) (aq (aB (sO (Dd oA Ha av (bQ (ab (pv 1)) av) (bY rfl B.len (aa (ab (pv 0)) ae))) (xx (Dd oA Ha av (bQ (ab (pv 1)) av) (bY rfl B.len (aa (bQ (ab (pv 0)) av) ae)))))))))
abbrev iE:Stmt:=top 16
def mh:List Str:=["thing"]
def my:List Str:=["thing"]
theorem tB:FnScope mh my (af iE):=⟨rfl,rfl,rfl,by decide+kernel,rfl,by decide+kernel,by decide+kernel⟩
theorem sH(B:Bl K mg base cv cA Cp)(gh:ah P w K mg base cv 1 "is_whole" 1 bw)(T:bz K mg "need_ways" iE f):ah P w K mg base cv 2 "need_ways" 1 (br):=
 ay (N:=mh) (ps:=my) T tB (fun _ _ _ _ _ _ us hl=>match us,hl with | [_],_=>rfl) fun cj A outer s H E hr=>
  (aq (cg (PDW.t (ip (dF (dG (aZ gh (hr.mono (by decide)) rfl bh (aa (ab (pv 0)) ae) rfl))) (fw (AJ (ab (pv 0)) (gA (aa av (aa av ae))))))) (aq lD) bC))
abbrev iy:Stmt:=top 18
def l9:List Str:=["board","found","row"]
def ml:List Str:=["board"]
theorem gK:FnScope l9 ml (af iy):=⟨rfl,rfl,rfl,by decide+kernel,rfl,by decide+kernel,by decide+kernel⟩
theorem sv(B:Bl K mg base cv cA Cp)(eN:ah P w K mg base cv 1 "cells_of_row" 2 aV)(T:bz K mg "all_cells" iy f):ah P w K mg base cv 2 "all_cells" 1 (di):=
 ay (N:=l9) (ps:=ml) T gK (fun _ _ _ _ _ _ us hl=>match us,hl with | [_],_=>rfl) fun cj A outer s H E hr=>
  (ag (kA gK.nd rfl (by first | exact .inl rfl | exact .inr rfl)) (ag (d8 (b7 PassesOwn.never rfl (d5 rfl B.range (aa (bY rfl B.len (aa (ab (pv 0)) ae)) ae)) (bj gK.nd rfl (by first | exact .inl rfl | exact .inr rfl)) bU (bB (aq (FY (pv 1) (aZ eN (hr.mono (by decide)) rfl cu (aa (ab (pv 0)) (aa (ab (pv 2)) ae)) rfl)))))) (aq (fB (i:=1) (aB (ab (pv 1)))))))
abbrev gF:Stmt:=top 21
def kc:List Str:=["board","cell","ways","found","row","column"]
def ku:List Str:=["board","cell","ways"]
theorem d9:FnScope kc ku (af gF):=⟨rfl,rfl,rfl,by decide+kernel,rfl,by decide+kernel,by decide+kernel⟩
theorem pS(B:Bl K mg base cv cA Cp)(wd:ah P w K mg base cv 1 "are_next" 3 df)(T:bz K mg "next_cells" gF f):ah P w K mg base cv 2 "next_cells" 3 (bS):=
 ay (N:=kc) (ps:=ku) T d9 (fun _ _ _ _ _ _ us hl=>match us,hl with | [_,_,_],_=>rfl) fun cj A outer s H E hr=>
  (ag (kA d9.nd rfl (by first | exact .inl rfl | exact .inr rfl)) (ag (d8 (b7 PassesOwn.never rfl (oQ rfl B.range (aa (xu rfl rfl B.max rfl (aa (sQ (bQ (ab (pv 1)) av) av) (aa av ae))) (aa (Df rfl rfl B.min rfl (aa (dh (bQ (ab (pv 1)) av) av) (aa (bY rfl B.len (aa (ab (pv 0)) ae)) ae))) ae))) (bj d9.nd rfl (by first | exact .inl rfl | exact .inr rfl)) bU (bB (aq (b7 PassesOwn.never rfl (oQ rfl B.range (aa (xu rfl rfl B.max rfl (aa (sQ (bQ (ab (pv 1)) av) av) (aa av ae))) (aa (Df rfl rfl B.min rfl (aa (dh (bQ (ab (pv 1)) av) av) (aa (bY rfl B.len (aa (bQ (ab (pv 0)) av) ae)) ae))) ae))) (bj d9.nd rfl (by first | exact .inl rfl | exact .inr rfl)) bU (bB (aq (cg (dG (aZ wd (hr.mono (by decide)) rfl cu (aa (ab (pv 1)) (aa (gA (aa (ab (pv 4)) (aa (ab (pv 5)) ae))) (aa (ab (pv 2)) ae))) rfl)) (aq (mX (pv 3) (gA (aa (ab (pv 4)) (aa (ab (pv 5)) ae))))) bC)))))))) (aq (fB (i:=3) (aB (ab (pv 3)))))))
abbrev iA:Stmt:=top 41
def ma:List Str:=["_law_script","_law_k","_law_many","_law_cell_here"]
def mq:List Str:=["_law_script","_law_k","_law_many"]
theorem gM:FnScope ma mq (af iA):=⟨rfl,rfl,rfl,by decide+kernel,rfl,by decide+kernel,by decide+kernel⟩
theorem sD(B:Bl K mg base cv cA Cp)(wg:ah P w K mg base cv 1 "_law_cell" 2 eS)(T:bz K mg "_law_drawn" iA f):ah P w K mg base cv 2 "_law_drawn" 3 (bf):=
 ay (N:=ma) (ps:=mq) T gM (fun _ _ _ _ _ _ us hl=>match us,hl with | [_,_,_],_=>rfl) fun cj A outer s H E hr=>
  (ag (ba gM.nd rfl (by first | exact .inl rfl | exact .inr rfl) (lB (dh (jI (lB (aZ wg (hr.mono (by decide)) rfl bh (aa (ab (pv 0)) (aa (ab (pv 1)) ae)) rfl) av) av) (jI av (dh (ab (pv 1)) av))) av)) (ag (ba gM.nd rfl (by first | exact .inl rfl | exact .inr rfl) (lB (dh (jI (ab (pv 3)) (ab (pv 3))) (sP (ab (pv 3)) av)) av)) (aq (aB (lB (sP (lB (dh (jI (ab (pv 3)) (ab (pv 3))) (sP (ab (pv 3)) av)) av) av) (ab (pv 2)))))))
abbrev e_:Stmt:=top 12
def d4:List Str:=["thing"]
def oF:List Str:=["thing"]
theorem vq:FnScope d4 oF (af e_):=⟨rfl,rfl,rfl,by decide+kernel,rfl,by decide+kernel,by decide+kernel⟩
theorem uW(B:Bl K mg base cv cA Cp)(BB:ah P w K mg base cv 2 "is_row" 1 eR)(T:bz K mg "is_board" e_ f):ah P w K mg base cv 3 "is_board" 1 (gm):=
 ay (N:=d4) (ps:=oF) T vq (fun _ _ _ _ _ _ us hl=>match us,hl with | [_],_=>rfl) fun cj A outer s H E hr=>
  (ag (cg (PDW.t (ip (dF (dG (lA rfl B.isinstance rfl (aa (ab (pv 0)) (aa (qR rfl B.tuple rfl) ae))))) (fw (dF (Dw oA oA av (bY rfl B.len (aa (ab (pv 0)) ae)) (yV rfl B.MOST_ROWS)))))) (aq (aB fW)) bC) (ag (cg (dF (dG (xp rfl rfl B.all rfl (aa (bT (tn:=["row"]) (n:=0) (aT (N:=d4) (osc:=(af e_)) rfl rfl (by decide+kernel)) rfl rfl (i5 (ab (pv 0))) (fun _ _ _ _ _ _ _=>bJ (show List.Nodup (((["row"]:List Str))++bM ["row"] d4) by decide+kernel) rfl rfl) (fun _ _ _ _ _ _=>bH) (fun _ _ _ _ _ _=>(aZ BB (hr.mono (by decide)) rfl cu (aa (ab (pv 0)) ae) rfl))) ae)))) (aq (aB fW)) bC) (aq (aB (xp rfl rfl B.all rfl (aa (bT (tn:=["row"]) (n:=0) (aT (N:=d4) (osc:=(af e_)) rfl rfl (by decide+kernel)) rfl rfl (i5 (ab (pv 0))) (fun _ _ _ _ _ _ _=>bJ (show List.Nodup (((["row"]:List Str))++bM ["row"] d4) by decide+kernel) rfl rfl) (fun _ _ _ _ _ _=>bH) (fun _ _ _ _ _ _=>(yT hr.units (bY rfl B.len (aa (ab (pv 0)) ae)) (bY rfl B.len (aa (bQ (ab (pv 1)) av) ae))))) ae))))))
abbrev iD:Stmt:=top 15
def mf:List Str:=["board","thing"]
def mx:List Str:=["board","thing"]
theorem tw:FnScope mf mx (af iD):=⟨rfl,rfl,rfl,by decide+kernel,rfl,by decide+kernel,by decide+kernel⟩
theorem sG(B:Bl K mg base cv cA Cp)(zu:ah P w K mg base cv 2 "is_cell" 2 iU)(T:bz K mg "need_cell" iD f):ah P w K mg base cv 3 "need_cell" 2 (cq):=
 ay (N:=mf) (ps:=mx) T tw (fun _ _ _ _ _ _ us hl=>match us,hl with | [_,_],_=>rfl) fun cj A outer s H E hr=>
  (aq (cg (dF (dG (aZ zu (hr.mono (by decide)) rfl bh (aa (ab (pv 0)) (aa (ab (pv 1)) ae)) rfl))) (aq lD) bC))
abbrev eI:Stmt:=top 31
def eE:List Str:=["board","cell","ways","letter"]
def kq:List Str:=["board","cell","ways"]
theorem jr:FnScope eE kq (af eI):=⟨rfl,rfl,rfl,by decide+kernel,rfl,by decide+kernel,by decide+kernel⟩
theorem pQ(B:Bl K mg base cv cA Cp)(fm:ah P w K mg base cv 1 "letter_of" 2 ck)(gi:ah P w K mg base cv 2 "next_cells" 3 bS)(T:bz K mg "like_cells" eI f):ah P w K mg base cv 3 "like_cells" 3 (cG):=
 ay (N:=eE) (ps:=kq) T jr (fun _ _ _ _ _ _ us hl=>match us,hl with | [_,_,_],_=>rfl) fun cj A outer s H E hr=>
  (ag (ba jr.nd rfl (by first | exact .inl rfl | exact .inr rfl) (aZ fm (hr.mono (by decide)) rfl bh (aa (ab (pv 0)) (aa (ab (pv 1)) ae)) rfl)) (aq (aB (bT (tn:=["near"]) (n:=0) (aT (N:=eE) (osc:=(af eI)) rfl rfl (by decide+kernel)) rfl rfl (bG (aZ gi (hr.mono (by decide)) rfl bh (aa (ab (pv 0)) (aa (ab (pv 1)) (aa (ab (pv 2)) ae))) rfl)) (fun _ _ _ _ _ _ _=>bJ (show List.Nodup (((["near"]:List Str))++bM ["near"] eE) by decide+kernel) rfl rfl) (fun _ _ _ _ _ _=>(kJ (y0 hr.units (aZ fm (hr.mono (by decide)) rfl cu (aa (ab (pv 1)) (aa (ab (pv 0)) ae)) rfl) (ab (pv 4))))) (fun _ _ _ _ _ _=>(ab (pv 0)))))))
abbrev fE:Stmt:=top 42
def ft:List Str:=["_law_script","_law_at","_law_most","_law_rows","_law_wide","_law_alphabet","_law_found","_law_row","_law_signs"]
def mn:List Str:=["_law_script","_law_at","_law_most"]
theorem bV:FnScope ft mn (af fE):=⟨rfl,rfl,rfl,by decide+kernel,rfl,by decide+kernel,by decide+kernel⟩
set_option maxHeartbeats 4000000 in
theorem sy(B:Bl K mg base cv cA Cp)(fk:ah P w K mg base cv 2 "_law_drawn" 3 bf)(T:bz K mg "_law_board" fE f):ah P w K mg base cv 3 "_law_board" 3 (ei):=
 ay (N:=ft) (ps:=mn) T bV (fun _ _ _ _ _ _ us hl=>match us,hl with | [_,_,_],_=>rfl) fun cj A outer s H E hr=>
  (ag (ba bV.nd rfl (by first | exact .inl rfl | exact .inr rfl) (dh av (aZ fk (hr.mono (by decide)) rfl bh (aa (ab (pv 0)) (aa (ab (pv 1)) (aa (ab (pv 2)) ae))) rfl))) (ag (ba bV.nd rfl (by first | exact .inl rfl | exact .inr rfl) (dh av (aZ fk (hr.mono (by decide)) rfl bh (aa (ab (pv 0)) (aa (dh (ab (pv 1)) av) (aa (ab (pv 2)) ae))) rfl))) (ag (ba bV.nd rfl (by first | exact .inl rfl | exact .inr rfl) (jH (oM (aa gz (aa gz (aa gz (aa gz ae))))) (aZ fk (hr.mono (by decide)) rfl bh (aa (ab (pv 0)) (aa (dh (ab (pv 1)) av) (aa av ae))) rfl))) (ag (ba bV.nd rfl (by first | exact .inl rfl | exact .inr rfl) (gA ae)) (ag (d8 (b7 PassesOwn.never rfl (d5 rfl B.range (aa (ab (pv 3)) ae)) (bj bV.nd rfl (by first | exact .inl rfl | exact .inr rfl)) bU (bB (ag (iq (tn:=["_law_k"]) (n:=0) bV.nd rfl (by first | exact .inl rfl | exact .inr rfl) (aT (N:=ft) (osc:=(af fE)) rfl rfl (by decide+kernel)) rfl rfl (d5 rfl B.range (aa (ab (pv 4)) ae)) (fun _ _ _ _ _ _ _=>bJ (show List.Nodup (((["_law_k"]:List Str))++bM ["_law_k"] ft) by decide+kernel) rfl rfl) (fun _ _ _ _ _ _=>bH) (fun _ _ _ _ _ _=>(xr (ab (pv 6)) (aZ fk (hr.mono (by decide)) rfl cu (aa (ab (pv 1)) (aa (dh (dh (dh (ab (pv 2)) av) (jI av (ab (pv 8)))) (ab (pv 0))) (aa (bY rfl B.len (aa (ab (pv 6)) ae)) ae))) rfl)))) (aq (ba bV.nd rfl (by first | exact .inl rfl | exact .inr rfl) (FJ (ab (pv 6)) (gA (aa (mV gz (aa (ab (pv 8)) ae)) ae))))))))) (aq (aB (ab (pv 6)))))))))
abbrev gE:Stmt:=top 14
def j_:List Str:=["thing"]
def kr:List Str:=["thing"]
theorem pV:FnScope j_ kr (af gE):=⟨rfl,rfl,rfl,by decide+kernel,rfl,by decide+kernel,by decide+kernel⟩
theorem pR(B:Bl K mg base cv cA Cp)(we:ah P w K mg base cv 3 "is_board" 1 gm)(T:bz K mg "need_board" gE f):ah P w K mg base cv 4 "need_board" 1 (aA):=
 ay (N:=j_) (ps:=kr) T pV (fun _ _ _ _ _ _ us hl=>match us,hl with | [_],_=>rfl) fun cj A outer s H E hr=>
  (aq (cg (dF (dG (aZ we (hr.mono (by decide)) rfl bh (aa (ab (pv 0)) ae) rfl))) (aq lD) bC))
abbrev gJ:Stmt:=top 32
def kf:List Str:=["board","start","ways","back","ring","further","cell","near"]
def ky:List Str:=["board","start","ways"]
theorem bZ:FnScope kf ky (af gJ):=⟨rfl,rfl,rfl,by decide+kernel,rfl,by decide+kernel,by decide+kernel⟩
theorem pU(B:Bl K mg base cv cA Cp)(rD:ah P w K mg base cv 3 "like_cells" 3 cG)(T:bz K mg "steps_back" gJ f):ah P w K mg base cv 4 "steps_back" 3 (aQ):=
 ay (N:=kf) (ps:=ky) T bZ (fun _ _ _ _ _ _ us hl=>match us,hl with | [_,_,_],_=>rfl) fun cj A outer s H E hr=>
  (ag (Du bZ.nd rfl (by first | exact .inl rfl | exact .inr rfl) (AE hr.units (ab (pv 1)) IY)) (ag (ba bZ.nd rfl (by first | exact .inl rfl | exact .inr rfl) (oM (aa (ab (pv 1)) ae))) (ag (d8 (AI PassesOwn.never (dG (ab (pv 4))) (bB (ag (kA bZ.nd rfl (by first | exact .inl rfl | exact .inr rfl)) (ag (b7 PassesOwn.never rfl (bG (ab (pv 4))) (bj bZ.nd rfl (by first | exact .inl rfl | exact .inr rfl)) bU (bB (aq (b7 PassesOwn.never rfl (bG (aZ rD (hr.mono (by decide)) rfl cu (aa (ab (pv 0)) (aa (ab (pv 6)) (aa (ab (pv 2)) ae))) rfl)) (bj bZ.nd rfl (by first | exact .inl rfl | exact .inr rfl)) bU (bB (aq (cg (Dk (qT hr.units (ab (pv 7)) (ab (pv 3)))) (ag (oU hr.units (pv 3) (ab (pv 7)) (ab (pv 6))) (aq (mX (pv 5) (ab (pv 7))))) bC))))))) (aq (fB (i:=5) (ba bZ.nd rfl (by first | exact .inl rfl | exact .inr rfl) (ab (pv 5)))))))))) (aq (fB (i:=3) (aB (ab (pv 3))))))))
abbrev s9:Stmt:=top 23
def yL:List Str:=["board"]
def yR:List Str:=["board"]
theorem DY:FnScope yL yR (af s9):=⟨rfl,rfl,rfl,by decide+kernel,rfl,by decide+kernel,by decide+kernel⟩
theorem C2(B:Bl K mg base cv cA Cp)(aG:ah P w K mg base cv 4 "need_board" 1 aA)(gW:ah P w K mg base cv 2 "all_cells" 1 di)(T:bz K mg "cells" s9 f):ah P w K mg base cv 5 "cells" 1 (jS):=
 ay (N:=yL) (ps:=yR) T DY (fun _ _ _ _ _ _ us hl=>match us,hl with | [_],_=>rfl) fun cj A outer s H E hr=>
  (ag (bP (aZ aG (hr.mono (by decide)) rfl bh (aa (ab (pv 0)) ae) rfl)) (aq (aB (aZ gW (hr.mono (by decide)) rfl bh (aa (ab (pv 0)) ae) rfl))))
abbrev iB:Stmt:=top 24
def md:List Str:=["board","cell"]
def mr:List Str:=["board","cell"]
theorem tm:FnScope md mr (af iB):=⟨rfl,rfl,rfl,by decide+kernel,rfl,by decide+kernel,by decide+kernel⟩
theorem sE(B:Bl K mg base cv cA Cp)(aG:ah P w K mg base cv 4 "need_board" 1 aA)(eh:ah P w K mg base cv 3 "need_cell" 2 cq)(fm:ah P w K mg base cv 1 "letter_of" 2 ck)(T:bz K mg "letter_at" iB f):ah P w K mg base cv 5 "letter_at" 2 (bg):=
 ay (N:=md) (ps:=mr) T tm (fun _ _ _ _ _ _ us hl=>match us,hl with | [_,_],_=>rfl) fun cj A outer s H E hr=>
  (ag (bP (aZ aG (hr.mono (by decide)) rfl bh (aa (ab (pv 0)) ae) rfl)) (ag (bP (aZ eh (hr.mono (by decide)) rfl bh (aa (ab (pv 0)) (aa (ab (pv 1)) ae)) rfl)) (aq (aB (aZ fm (hr.mono (by decide)) rfl bh (aa (ab (pv 0)) (aa (ab (pv 1)) ae)) rfl)))))
abbrev oZ:Stmt:=top 25
def uL:List Str:=["board","cell","ways"]
def va:List Str:=["board","cell","ways"]
theorem AN:FnScope uL va (af oZ):=⟨rfl,rfl,rfl,by decide+kernel,rfl,by decide+kernel,by decide+kernel⟩
theorem Ar(B:Bl K mg base cv cA Cp)(aG:ah P w K mg base cv 4 "need_board" 1 aA)(eh:ah P w K mg base cv 3 "need_cell" 2 cq)(bR:ah P w K mg base cv 2 "need_ways" 1 br)(gi:ah P w K mg base cv 2 "next_cells" 3 bS)(T:bz K mg "beside" oZ f):ah P w K mg base cv 5 "beside" 3 (fR):=
 ay (N:=uL) (ps:=va) T AN (fun _ _ _ _ _ _ us hl=>match us,hl with | [_,_,_],_=>rfl) fun cj A outer s H E hr=>
  (ag (bP (aZ aG (hr.mono (by decide)) rfl bh (aa (ab (pv 0)) ae) rfl)) (ag (bP (aZ eh (hr.mono (by decide)) rfl bh (aa (ab (pv 0)) (aa (ab (pv 1)) ae)) rfl)) (ag (bP (aZ bR (hr.mono (by decide)) rfl bh (aa (ab (pv 2)) ae) rfl)) (aq (aB (aZ gi (hr.mono (by decide)) rfl bh (aa (ab (pv 0)) (aa (ab (pv 1)) (aa (ab (pv 2)) ae))) rfl))))))
abbrev kF:Stmt:=top 27
def kg:List Str:=["board"]
def vc:List Str:=["board"]
theorem AQ:FnScope kg vc (af kF):=⟨rfl,rfl,rfl,by decide+kernel,rfl,by decide+kernel,by decide+kernel⟩
theorem Au(B:Bl K mg base cv cA Cp)(aG:ah P w K mg base cv 4 "need_board" 1 aA)(je:ah P w K mg base cv 1 "column_from_below" 2 bE)(T:bz K mg "turned" kF f):ah P w K mg base cv 5 "turned" 1 (el):=
 ay (N:=kg) (ps:=vc) T AQ (fun _ _ _ _ _ _ us hl=>match us,hl with | [_],_=>rfl) fun cj A outer s H E hr=>
  (ag (bP (aZ aG (hr.mono (by decide)) rfl bh (aa (ab (pv 0)) ae) rfl)) (aq (aB (oP rfl B.tuple rfl (aa (bT (tn:=["column"]) (n:=0) (aT (N:=kg) (osc:=(af kF)) rfl rfl (by decide+kernel)) rfl rfl (d5 rfl B.range (aa (bY rfl B.len (aa (bQ (ab (pv 0)) av) ae)) ae)) (fun _ _ _ _ _ _ _=>bJ (show List.Nodup (((["column"]:List Str))++bM ["column"] kg) by decide+kernel) rfl rfl) (fun _ _ _ _ _ _=>bH) (fun _ _ _ _ _ _=>(aZ je (hr.mono (by decide)) rfl cu (aa (ab (pv 1)) (aa (ab (pv 0)) ae)) rfl))) ae)))))
abbrev gD:Stmt:=top 28
def gu:List Str:=["board"]
def oI:List Str:=["board"]
theorem vx:FnScope gu oI (af gD):=⟨rfl,rfl,rfl,by decide+kernel,rfl,by decide+kernel,by decide+kernel⟩
theorem uZ(B:Bl K mg base cv cA Cp)(aG:ah P w K mg base cv 4 "need_board" 1 aA)(T:bz K mg "mirrored" gD f):ah P w K mg base cv 5 "mirrored" 1 (cS):=
 ay (N:=gu) (ps:=oI) T vx (fun _ _ _ _ _ _ us hl=>match us,hl with | [_],_=>rfl) fun cj A outer s H E hr=>
  (ag (bP (aZ aG (hr.mono (by decide)) rfl bh (aa (ab (pv 0)) ae) rfl)) (aq (aB (oP rfl B.tuple rfl (aa (bT (tn:=["row"]) (n:=0) (aT (N:=gu) (osc:=(af gD)) rfl rfl (by decide+kernel)) rfl rfl (i5 (ab (pv 0))) (fun _ _ _ _ _ _ _=>bJ (show List.Nodup (((["row"]:List Str))++bM ["row"] gu) by decide+kernel) rfl rfl) (fun _ _ _ _ _ _=>bH) (fun _ _ _ _ _ _=>(Dg (ab (pv 0)) (oN av)))) ae)))))
abbrev i9:Stmt:=top 29
def i3:List Str:=["board","signs"]
def qP:List Str:=["board"]
theorem o4:FnScope i3 qP (af i9):=⟨rfl,rfl,rfl,by decide+kernel,rfl,by decide+kernel,by decide+kernel⟩
theorem xi(B:Bl K mg base cv cA Cp)(aG:ah P w K mg base cv 4 "need_board" 1 aA)(T:bz K mg "letters" i9 f):ah P w K mg base cv 5 "letters" 1 (cX):=
 ay (N:=i3) (ps:=qP) T o4 (fun _ _ _ _ _ _ us hl=>match us,hl with | [_],_=>rfl) fun cj A outer s H E hr=>
  (ag (bP (aZ aG (hr.mono (by decide)) rfl bh (aa (ab (pv 0)) ae) rfl)) (ag (ba o4.nd rfl (by first | exact .inl rfl | exact .inr rfl) (mV gz (aa (ab (pv 0)) ae))) (aq (aB (bT (tn:=["letter"]) (n:=0) (aT (N:=i3) (osc:=(af i9)) rfl rfl (by decide+kernel)) rfl rfl (sR (yZ rfl B.LETTERS (by decide))) (fun _ _ _ _ _ _ _=>bJ (show List.Nodup (((["letter"]:List Str))++bM ["letter"] i3) by decide+kernel) rfl rfl) (fun _ _ _ _ _ _=>(kJ (Jn (ab (pv 0)) (ab (pv 2))))) (fun _ _ _ _ _ _=>(gA (aa (ab (pv 0)) (aa (FK (ab (pv 2)) (aa (ab (pv 0)) ae)) ae)))))))))
abbrev fK:Stmt:=top 33
def jm:List Str:=["board","ways","found","seen","cell","patch"]
def jo:List Str:=["board","ways"]
theorem cU:FnScope jm jo (af fK):=⟨rfl,rfl,rfl,by decide+kernel,rfl,by decide+kernel,by decide+kernel⟩
theorem oy(B:Bl K mg base cv cA Cp)(gW:ah P w K mg base cv 2 "all_cells" 1 di)(gj:ah P w K mg base cv 4 "steps_back" 3 aQ)(EI:ah P w K mg base cv 1 "keyed" 1 jT)(T:bz K mg "all_patches" fK f):ah P w K mg base cv 5 "all_patches" 2 (bK):=
 ay (N:=jm) (ps:=jo) T cU (fun _ _ _ _ _ _ us hl=>match us,hl with | [_,_],_=>rfl) fun cj A outer s H E hr=>
  (ag (kA cU.nd rfl (by first | exact .inl rfl | exact .inr rfl)) (ag (oT cU.nd rfl (by first | exact .inl rfl | exact .inr rfl)) (ag (d8 (b7 PassesOwn.never rfl (bG (aZ gW (hr.mono (by decide)) rfl cu (aa (ab (pv 0)) ae) rfl)) (bj cU.nd rfl (by first | exact .inl rfl | exact .inr rfl)) bU (bB (aq (cg (Dk (qT hr.units (ab (pv 4)) (ab (pv 3)))) (ag (ba cU.nd rfl (by first | exact .inl rfl | exact .inr rfl) (yX rfl rfl B.sorted rfl (aa (aZ gj (hr.mono (by decide)) rfl cu (aa (ab (pv 0)) (aa (ab (pv 4)) (aa (ab (pv 1)) ae))) rfl) ae))) (ag (mX (pv 2) (ab (pv 5))) (aq (FZ hr.units (pv 3) (aZ EI (hr.mono (by decide)) rfl cu (aa (ab (pv 5)) ae) rfl) ⟨rfl,rfl,rfl,rfl⟩)))) bC))))) (aq (fB (i:=2) (aB (ab (pv 2))))))))
abbrev jN:Stmt:=top 35
def oq:List Str:=["board","cell","ways"]
def oK:List Str:=["board","cell","ways"]
theorem vy:FnScope oq oK (af jN):=⟨rfl,rfl,rfl,by decide+kernel,rfl,by decide+kernel,by decide+kernel⟩
theorem u7(B:Bl K mg base cv cA Cp)(aG:ah P w K mg base cv 4 "need_board" 1 aA)(eh:ah P w K mg base cv 3 "need_cell" 2 cq)(bR:ah P w K mg base cv 2 "need_ways" 1 br)(gj:ah P w K mg base cv 4 "steps_back" 3 aQ)(T:bz K mg "patch_of" jN f):ah P w K mg base cv 5 "patch_of" 3 (dX):=
 ay (N:=oq) (ps:=oK) T vy (fun _ _ _ _ _ _ us hl=>match us,hl with | [_,_,_],_=>rfl) fun cj A outer s H E hr=>
  (ag (bP (aZ aG (hr.mono (by decide)) rfl bh (aa (ab (pv 0)) ae) rfl)) (ag (bP (aZ eh (hr.mono (by decide)) rfl bh (aa (ab (pv 0)) (aa (ab (pv 1)) ae)) rfl)) (ag (bP (aZ bR (hr.mono (by decide)) rfl bh (aa (ab (pv 2)) ae) rfl)) (aq (aB (yX rfl rfl B.sorted rfl (aa (aZ gj (hr.mono (by decide)) rfl bh (aa (ab (pv 0)) (aa (ab (pv 1)) (aa (ab (pv 2)) ae))) rfl) ae)))))))
abbrev lO:Stmt:=top 36
def qG:List Str:=["board","ways"]
def qQ:List Str:=["board","ways"]
theorem xF:FnScope qG qQ (af lO):=⟨rfl,rfl,rfl,by decide+kernel,rfl,by decide+kernel,by decide+kernel⟩
theorem xj(B:Bl K mg base cv cA Cp)(aG:ah P w K mg base cv 4 "need_board" 1 aA)(bR:ah P w K mg base cv 2 "need_ways" 1 br)(c9:ah P w K mg base cv 5 "all_patches" 2 bK)(T:bz K mg "patches" lO f):ah P w K mg base cv 6 "patches" 2 (cI):=
 ay (N:=qG) (ps:=qQ) T xF (fun _ _ _ _ _ _ us hl=>match us,hl with | [_,_],_=>rfl) fun cj A outer s H E hr=>
  (ag (bP (aZ aG (hr.mono (by decide)) rfl bh (aa (ab (pv 0)) ae) rfl)) (ag (bP (aZ bR (hr.mono (by decide)) rfl bh (aa (ab (pv 1)) ae) rfl)) (aq (aB (aZ c9 (hr.mono (by decide)) rfl bh (aa (ab (pv 0)) (aa (ab (pv 1)) ae)) rfl)))))
abbrev jK:Stmt:=top 37
def og:List Str:=["board","ways"]
def oE:List Str:=["board","ways"]
theorem vp:FnScope og oE (af jK):=⟨rfl,rfl,rfl,by decide+kernel,rfl,by decide+kernel,by decide+kernel⟩
theorem uV(B:Bl K mg base cv cA Cp)(aG:ah P w K mg base cv 4 "need_board" 1 aA)(bR:ah P w K mg base cv 2 "need_ways" 1 br)(c9:ah P w K mg base cv 5 "all_patches" 2 bK)(T:bz K mg "how_many" jK f):ah P w K mg base cv 6 "how_many" 2 (cF):=
 ay (N:=og) (ps:=oE) T vp (fun _ _ _ _ _ _ us hl=>match us,hl with | [_,_],_=>rfl) fun cj A outer s H E hr=>
  (ag (bP (aZ aG (hr.mono (by decide)) rfl bh (aa (ab (pv 0)) ae) rfl)) (ag (bP (aZ bR (hr.mono (by decide)) rfl bh (aa (ab (pv 1)) ae) rfl)) (aq (aB (bY rfl B.len (aa (aZ c9 (hr.mono (by decide)) rfl bh (aa (ab (pv 0)) (aa (ab (pv 1)) ae)) rfl) ae))))))
abbrev gG:Stmt:=top 38
def gw:List Str:=["board","ways","numbers","told","row"]
def oJ:List Str:=["board","ways"]
theorem fF:FnScope gw oJ (af gG):=⟨rfl,rfl,rfl,by decide+kernel,rfl,by decide+kernel,by decide+kernel⟩
theorem u0(B:Bl K mg base cv cA Cp)(aG:ah P w K mg base cv 4 "need_board" 1 aA)(bR:ah P w K mg base cv 2 "need_ways" 1 br)(rE:ah P w K mg base cv 1 "numbers_of" 1 eD)(c9:ah P w K mg base cv 5 "all_patches" 2 bK)(eN:ah P w K mg base cv 1 "cells_of_row" 2 aV)(T:bz K mg "numbered" gG f):ah P w K mg base cv 6 "numbered" 2 (dW):=
 ay (N:=gw) (ps:=oJ) T fF (fun _ _ _ _ _ _ us hl=>match us,hl with | [_,_],_=>rfl) fun cj A outer s H E hr=>
  (ag (bP (aZ aG (hr.mono (by decide)) rfl bh (aa (ab (pv 0)) ae) rfl)) (ag (bP (aZ bR (hr.mono (by decide)) rfl bh (aa (ab (pv 1)) ae) rfl)) (ag (ba fF.nd rfl (by first | exact .inl rfl | exact .inr rfl) (aZ rE (hr.mono (by decide)) rfl bh (aa (aZ c9 (hr.mono (by decide)) rfl bh (aa (ab (pv 0)) (aa (ab (pv 1)) ae)) rfl) ae) rfl)) (ag (kA fF.nd rfl (by first | exact .inl rfl | exact .inr rfl)) (ag (d8 (b7 PassesOwn.never rfl (d5 rfl B.range (aa (bY rfl B.len (aa (ab (pv 0)) ae)) ae)) (bj fF.nd rfl (by first | exact .inl rfl | exact .inr rfl)) bU (bB (aq (mX (pv 3) (bT (tn:=["cell"]) (n:=0) (aT (N:=gw) (osc:=(af gG)) rfl rfl (by decide+kernel)) rfl rfl (bG (aZ eN (hr.mono (by decide)) rfl cu (aa (ab (pv 0)) (aa (ab (pv 4)) ae)) rfl)) (fun _ _ _ _ _ _ _=>bJ (show List.Nodup (((["cell"]:List Str))++bM ["cell"] gw) by decide+kernel) rfl rfl) (fun _ _ _ _ _ _=>bH) (fun _ _ _ _ _ _=>(De hr.units (ab (pv 3)) (ab (pv 0)))))))))) (aq (fB (i:=3) (aB (ab (pv 3))))))))))
abbrev az:Stmt:=top 46
def aK:List Str:=["_law_script","_law_board_here","_law_whole","_law_ways","_law_rows","_law_told","_law_number","_law_row","_law_cell_here","_law_own","_law_like","_law_firsts","_law_sizes","_law_other","_law_names","_law_renamed"]
def lu:List Str:=["_law_script"]
theorem a8:FnScope aK lu (af az):=⟨rfl,rfl,rfl,by decide+kernel,rfl,by decide+kernel,by decide+kernel⟩
set_option maxHeartbeats 4000000 in
theorem tF(B:Bl K mg base cv cA Cp)(gX:ah P w K mg base cv 3 "_law_board" 3 ei){cj:Value}{A:Around}{outer:List Env}{s:Shared}{H:Hp}{E:XK}(hr:Room 6 (A.deeper (envOfC "law" (af az) s.heap.objs.size f cj))):
 Box (kR (fQ (pZ P w cv) P w K mg base aK "law" (af az) f cj A outer s H E) (fun n H'=>E (cv n) none H') ((bO az).getD 0 (.Pass ⟨0,0,0,0⟩)) mF):=
 ⟨(ba a8.nd rfl (by first | exact .inl rfl | exact .inr rfl) (aZ gX (hr.mono (by decide)) rfl bh (aa (ab (pv 0)) (aa av (aa av ae))) rfl))⟩
set_option maxHeartbeats 4000000 in
theorem tG(B:Bl K mg base cv cA Cp)(rC:ah P w K mg base cv 5 "cells" 1 jS){cj:Value}{A:Around}{outer:List Env}{s:Shared}{H:Hp}{E:XK}(hr:Room 6 (A.deeper (envOfC "law" (af az) s.heap.objs.size f cj))):
 Box (kR (fQ (pZ P w cv) P w K mg base aK "law" (af az) f cj A outer s H E) (fun n H'=>E (cv n) none H') ((bO az).getD 1 (.Pass ⟨0,0,0,0⟩)) mG):=
 ⟨(ba a8.nd rfl (by first | exact .inl rfl | exact .inr rfl) (aZ rC (hr.mono (by decide)) rfl bh (aa (ab (pv 1)) ae) rfl))⟩
set_option maxHeartbeats 4000000 in
theorem tH(B:Bl K mg base cv cA Cp)(fM:ah P w K mg base cv 6 "patches" 2 cI)(jw:ah P w K mg base cv 6 "numbered" 2 dW)(de:ah P w K mg base cv 6 "how_many" 2 cF)(nj:ah P w K mg base cv 5 "turned" 1 el)(jv:ah P w K mg base cv 5 "mirrored" 1 cS)(eg:ah P w K mg base cv 5 "letter_at" 2 bg)(jx:ah P w K mg base cv 5 "patch_of" 3 dX)(kT:ah P w K mg base cv 1 "_law_all" 1 eK)(ni:ah P w K mg base cv 5 "beside" 3 fR)(kU:ah P w K mg base cv 5 "letters" 1 cX){cj:Value}{A:Around}{outer:List Env}{s:Shared}{H:Hp}{E:XK}(hr:Room 6 (A.deeper (envOfC "law" (af az) s.heap.objs.size f cj))):
 Box (kR (fQ (pZ P w cv) P w K mg base aK "law" (af az) f cj A outer s H E) (fun n H'=>E (cv n) none H') ((bO az).getD 2 (.Pass ⟨0,0,0,0⟩)) mH):=
 ⟨(d8 (b7 PassesOwn.never rfl (i5 (gA (aa av (aa av ae)))) (bj a8.nd rfl (by first | exact .inl rfl | exact .inr rfl)) bU (bB (ag (ba a8.nd rfl (by first | exact .inl rfl | exact .inr rfl) (aZ fM (hr.mono (by decide)) rfl cu (aa (ab (pv 1)) (aa (ab (pv 3)) ae)) rfl)) (ag (cg (PDW.t (ip (ir hr.units (Dh rfl B.sorted rfl (aa (aZ kT (hr.mono (by decide)) rfl cu (aa (ab (pv 4)) ae) rfl) ae)) (ab (pv 2))) (fw (ir hr.units (bY rfl B.len (aa (ab (pv 4)) ae)) (aZ de (hr.mono (by decide)) rfl cu (aa (ab (pv 1)) (aa (ab (pv 3)) ae)) rfl))))) (aq (aB fW)) bC) (ag (ba a8.nd rfl (by first | exact .inl rfl | exact .inr rfl) (aZ jw (hr.mono (by decide)) rfl cu (aa (ab (pv 1)) (aa (ab (pv 3)) ae)) rfl)) (ag (b7 PassesOwn.never rfl (vf rfl B.enumerate (aa (ab (pv 4)) ae)) (xy rfl (fY (bj a8.nd rfl (by first | exact .inl rfl | exact .inr rfl)) (fY (bj a8.nd rfl (by first | exact .inl rfl | exact .inr rfl)) sS))) (y6 (is:=[6,7])) (bB (ag (cg (PDW.t (ip (ir hr.units (ab (pv 7)) (AD rfl hr.units rfl B.sorted rfl B.set rfl rfl (ab (pv 7)))) (fw (ir hr.units (xt rfl rfl B.len rfl B.set rfl rfl (bT (tn:=["_law_cell_here"]) (n:=0) (aT (N:=aK) (osc:=(af az)) rfl rfl (by decide+kernel)) rfl rfl (bG (ab (pv 7))) (fun _ _ _ _ _ _ _=>bJ (show List.Nodup (((["_law_cell_here"]:List Str))++bM ["_law_cell_here"] aK) by decide+kernel) rfl rfl) (fun _ _ _ _ _ _=>bH) (fun _ _ _ _ _ _=>(aZ eg (hr.mono (by decide)) rfl cu (aa (ab (pv 2)) (aa (ab (pv 0)) ae)) rfl)))) av)))) (aq (aB fW)) bC) (aq (b7 PassesOwn.never rfl (bG (ab (pv 7))) (bj a8.nd rfl (by first | exact .inl rfl | exact .inr rfl)) bU (bB (ag (ba a8.nd rfl (by first | exact .inl rfl | exact .inr rfl) (aZ eg (hr.mono (by decide)) rfl cu (aa (ab (pv 1)) (aa (ab (pv 8)) ae)) rfl)) (ag (iq (tn:=["_law_there"]) (n:=0) a8.nd rfl (by first | exact .inl rfl | exact .inr rfl) (aT (N:=aK) (osc:=(af az)) rfl rfl (by decide+kernel)) rfl rfl (bG (aZ ni (hr.mono (by decide)) rfl cu (aa (ab (pv 1)) (aa (ab (pv 8)) (aa (ab (pv 3)) ae))) rfl)) (fun _ _ _ _ _ _ _=>bJ (show List.Nodup (((["_law_there"]:List Str))++bM ["_law_there"] aK) by decide+kernel) rfl rfl) (fun _ _ _ _ _ _=>(kJ (y0 hr.units (aZ eg (hr.mono (by decide)) rfl cu (aa (ab (pv 2)) (aa (ab (pv 0)) ae)) rfl) (ab (pv 10))))) (fun _ _ _ _ _ _=>(ab (pv 0)))) (ag (cg (ir hr.units (bT (tn:=["_law_there"]) (n:=0) (aT (N:=aK) (osc:=(af az)) rfl rfl (by decide+kernel)) rfl rfl (bG (ab (pv 10))) (fun _ _ _ _ _ _ _=>bJ (show List.Nodup (((["_law_there"]:List Str))++bM ["_law_there"] aK) by decide+kernel) rfl rfl) (fun _ _ _ _ _ _=>(kJ (AK hr.units (ab (pv 0)) (ab (pv 8))))) (fun _ _ _ _ _ _=>(ab (pv 0)))) (oM ae)) (aq (aB fW)) bC) (aq (cg (ir hr.units (jH (jH (ab (pv 5)) (bQ (ab (pv 8)) av)) (bQ (ab (pv 8)) av)) (ab (pv 6))) (aq (aB fW)) bC))))))))))) (ag (iq (tn:=["_law_row"]) (n:=0) a8.nd rfl (by first | exact .inl rfl | exact .inr rfl) (aT (N:=aK) (osc:=(af az)) rfl rfl (by decide+kernel)) rfl rfl (bG (ab (pv 4))) (fun _ _ _ _ _ _ _=>bJ (show List.Nodup (((["_law_row"]:List Str))++bM ["_law_row"] aK) by decide+kernel) rfl rfl) (fun _ _ _ _ _ _=>bH) (fun _ _ _ _ _ _=>(jH (ab (pv 0)) av))) (ag (cg (PDW.t (ip (ir hr.units (ab (pv 11)) (Dh rfl B.sorted rfl (aa (ab (pv 11)) ae))) (fw (ir hr.units (aZ jx (hr.mono (by decide)) rfl cu (aa (ab (pv 1)) (aa (jH (jH (ab (pv 4)) (oN av)) (oN av)) (aa (ab (pv 3)) ae))) rfl) (jH (ab (pv 4)) (oN av)))))) (aq (aB fW)) bC) (ag (ba a8.nd rfl (by first | exact .inl rfl | exact .inr rfl) (yY rfl B.sorted rfl (aa (bT (tn:=["_law_row"]) (n:=0) (aT (N:=aK) (osc:=(af az)) rfl rfl (by decide+kernel)) rfl rfl (bG (ab (pv 4))) (fun _ _ _ _ _ _ _=>bJ (show List.Nodup (((["_law_row"]:List Str))++bM ["_law_row"] aK) by decide+kernel) rfl rfl) (fun _ _ _ _ _ _=>bH) (fun _ _ _ _ _ _=>(bY rfl B.len (aa (ab (pv 0)) ae)))) ae))) (ag (b7 PassesOwn.never rfl (i5 (gA (aa (aZ nj (hr.mono (by decide)) rfl cu (aa (ab (pv 1)) ae) rfl) (aa (aZ jv (hr.mono (by decide)) rfl cu (aa (ab (pv 1)) ae) rfl) (aa (Dg (ab (pv 1)) (oN av)) ae))))) (bj a8.nd rfl (by first | exact .inl rfl | exact .inr rfl)) bU (bB (aq (cg (ir hr.units (yY rfl B.sorted rfl (aa (bT (tn:=["_law_row"]) (n:=0) (aT (N:=aK) (osc:=(af az)) rfl rfl (by decide+kernel)) rfl rfl (bG (aZ fM (hr.mono (by decide)) rfl cu (aa (ab (pv 13)) (aa (ab (pv 3)) ae)) rfl)) (fun _ _ _ _ _ _ _=>bJ (show List.Nodup (((["_law_row"]:List Str))++bM ["_law_row"] aK) by decide+kernel) rfl rfl) (fun _ _ _ _ _ _=>bH) (fun _ _ _ _ _ _=>(bY rfl B.len (aa (ab (pv 0)) ae)))) ae)) (ab (pv 12))) (aq (aB fW)) bC)))) (ag (ba a8.nd rfl (by first | exact .inl rfl | exact .inr rfl) (FL rfl rfl B.dict rfl B.zip rfl rfl (aa (bT (tn:=["_law_letter","_law_many"]) (n:=2) (aT (N:=aK) (osc:=(af az)) rfl rfl (by decide+kernel)) rfl rfl (bG (aZ kU (hr.mono (by decide)) rfl cu (aa (ab (pv 1)) ae) rfl)) (fun _ _ _ _ _ _ _=>JG (show List.Nodup (((["_law_letter","_law_many"]:List Str))++bM ["_law_letter","_law_many"] aK) by decide+kernel) rfl rfl rfl rfl rfl) (fun _ _ _ _ _ _=>bH) (fun _ _ _ _ _ _=>(ab (pv 0)))) (aa gz ae)))) (ag (ba a8.nd rfl (by first | exact .inl rfl | exact .inr rfl) (oP rfl B.tuple rfl (aa (bT (tn:=["_law_row"]) (n:=0) (aT (N:=aK) (osc:=(af az)) rfl rfl (by decide+kernel)) rfl rfl (i5 (ab (pv 1))) (fun _ _ _ _ _ _ _=>bJ (show List.Nodup (((["_law_row"]:List Str))++bM ["_law_row"] aK) by decide+kernel) rfl rfl) (fun _ _ _ _ _ _=>bH) (fun _ _ _ _ _ _=>(mV gz (aa (bT (tn:=["_law_sign"]) (n:=0) (aT (N:=(((["_law_row"]:List Str))++bM ["_law_row"] aK)) (osc:=(DI _ (af az))) rfl rfl (by decide+kernel)) rfl rfl (sR (ab (pv 0))) (fun _ _ _ _ _ _ _=>bJ (show List.Nodup (((["_law_sign"]:List Str))++bM ["_law_sign"] (((["_law_row"]:List Str))++bM ["_law_row"] aK)) by decide+kernel) rfl rfl) (fun _ _ _ _ _ _=>bH) (fun _ _ _ _ _ _=>(De hr.units (ab (pv 16)) (ab (pv 0))))) ae)))) ae))) (aq (cg (ir hr.units (aZ fM (hr.mono (by decide)) rfl cu (aa (ab (pv 15)) (aa (ab (pv 3)) ae)) rfl) (ab (pv 4))) (aq (aB fW)) bC)))))))))))))))⟩
set_option maxHeartbeats 4000000 in
theorem tI(B:Bl K mg base cv cA Cp)(de:ah P w K mg base cv 6 "how_many" 2 cF){cj:Value}{A:Around}{outer:List Env}{s:Shared}{H:Hp}{E:XK}(hr:Room 6 (A.deeper (envOfC "law" (af az) s.heap.objs.size f cj))):
 Box (kR (fQ (pZ P w cv) P w K mg base aK "law" (af az) f cj A outer s H E) (fun n H'=>E (cv n) none H') ((bO az).getD 3 (.Pass ⟨0,0,0,0⟩)) mI):=
 ⟨(aB (Lw (aZ de (hr.mono (by decide)) rfl bh (aa (ab (pv 1)) (aa av ae)) rfl) (aZ de (hr.mono (by decide)) rfl bh (aa (ab (pv 1)) (aa av ae)) rfl)))⟩
set_option maxHeartbeats 4000000 in
theorem uT{fd:FuncData}(B:Bl K mg base cv cA Cp)(gX:ah P w K mg base cv 3 "_law_board" 3 ei)(rC:ah P w K mg base cv 5 "cells" 1 jS)(fM:ah P w K mg base cv 6 "patches" 2 cI)(jw:ah P w K mg base cv 6 "numbered" 2 dW)(de:ah P w K mg base cv 6 "how_many" 2 cF)(nj:ah P w K mg base cv 5 "turned" 1 el)(jv:ah P w K mg base cv 5 "mirrored" 1 cS)(eg:ah P w K mg base cv 5 "letter_at" 2 bg)(jx:ah P w K mg base cv 5 "patch_of" 3 dX)(kT:ah P w K mg base cv 1 "_law_all" 1 eK)(ni:ah P w K mg base cv 5 "beside" 3 fR)(kU:ah P w K mg base cv 5 "letters" 1 cX)(Fn:Fun K "law" "law" az f fd):FnOk P w K mg base (pZ P w cv) 7 f fd lu (JX K cv 1 iV):=
 Kj (N:=aK) (ps:=lu) (τ:=lU) Fn a8 fun cj A outer s H E hr=>by
  obtain⟨RJ⟩:Box (PSDs (fQ (pZ P w cv) P w K mg base aK "law" (af az) f cj A outer s H E) (fun n H'=>E (cv n) none H') (bO az) lU):=(wc (tF B gX hr) (wc (tG B rC hr) (wc (tH B fM jw de nj jv eg jx kT ni kU hr) (Hq (tI B de hr)))))
  assumption
end
end K1
namespace K1
open PySem L2 L3
theorem CL{ds:List D}(h:ds.length≤lim):fq ds=M.ret (.lst ds):=if_pos h
theorem cN:lim=4096:=rfl
theorem eM{α:Type}{xs:List α}{i:Nat}{x:α}(h:xs[i]? =some x):L2.atI xs (i:Int)=some x:=by
 obtain⟨hi,e⟩:=List.getElem?_eq_some_iff.mp h
 unfold L2.atI Cw
 rw[if_pos (Int.natCast_nonneg i),if_pos (by exact Int.ofNat_lt.mpr hi)]
 exact h
theorem ao{m:Nat}{g:List D→M D}{δs:DA}{ρ:a9}{ds:List D}(h:δs ρ=M.ret ds)(hl:ds.length=m):ai m g δs ρ=g ds:=by
 unfold ai
 rw[h]
 exact if_pos hl
theorem aS{a:DE}{r:DA}{ρ:a9}{x:D}{xs:List D}(h1:a ρ=M.ret x)(h2:r ρ=M.ret xs):aC a r ρ=M.ret (x::xs):=by
 unfold aC
 rw[h1,ak,h2]
 rfl
theorem bo{g:D→D→M D}{a b:DE}{ρ:a9}{x y:D}(h1:a ρ=M.ret x)(h2:b ρ=M.ret y):d2 g a b ρ=g x y:=by
 unfold d2
 rw[h1,ak,h2]
 rfl
theorem cC{g:List D→M D}{a:DA}{ρ:a9}{xs:List D}(h:a ρ=M.ret xs):dA g a ρ=g xs:=by
 unfold dA
 rw[h]
 rfl
theorem fS{i j:Int}(h:0<j):jW (.int i) (.int j)=M.ret (.int (i % j)):=by
 show (if decide (0<j)=true then _ else _)=_
 rw[if_pos (decide_eq_true h)]
theorem jV{i j:Int}(h:0<j)(h2:j<1073741824):pJ (.int i) (.int j)=M.ret (.int (i / j)):=by
 show (if decide (0<j∧j<1073741824)=true then _ else _)=_
 rw[if_pos (decide_eq_true ⟨h,h2⟩)]
theorem fT{i j:Int}(h:(-(2 ^ 64)<i∧i<2 ^ 64)∨(-(2 ^ 64)<j∧j<2 ^ 64)):g6 (.int i) (.int j)=M.ret (.int (i*j)):=by
 show (if decide _=true then _ else _)=_
 rw[if_pos (decide_eq_true h)]
theorem g0{i j:Int}:dY (.int i) (.int j)=M.ret (.int (i+j)):=rfl
theorem BF(ns:List Int)(hl:ns.length≤63)(k:Nat):∃v,eS [.scr ns, .int (k:Int)]=M.ret (.int v):=by
 cases ns with
 |nil=>
  refine⟨7*(k:Int),?_⟩
  rfl
 |cons n r=>
  have hp:0<(n::r).length:=Nat.succ_pos _
  generalize e:(n::r)=ns at*
  have he:kQ 6 (.scr ns) (.lst [])=some false:=by subst e;rfl
  obtain⟨y,hy⟩:∃y,ns[k % ns.length]? =some y:=⟨_,List.getElem?_eq_getElem (Nat.mod_lt _ hp)⟩
  have Ph:(0:Int)<(ns.length:Int):=by omega
  have h1:jW (.int (k:Int)) (.int (ns.length:Int))=M.ret (.int ((k % ns.length:Nat):Int)):=fS Ph
  have h2:pJ (.int (k:Int)) (.int (ns.length:Int))=M.ret (.int ((k:Int) / (ns.length:Int))):=jV Ph (by omega)
  have h3:B5 (.scr ns) (.int ((k % ns.length:Nat):Int))=M.ret (.int y):=by
   show (match L2.atI ns ((k % ns.length:Nat):Int) with | some n=>M.ret (D.int n) | none=>M.stuck)=_
   rw[eM hy]
  have h4:g6 (.int 6553) (.int ((k:Int) / (ns.length:Int)))=M.ret (.int (6553*((k:Int) / (ns.length:Int)))):=fT (.inl ⟨by decide,by decide⟩)
  refine⟨y+6553*((k:Int) / (ns.length:Int)),?_⟩
  simp only[eS,pz,b0,aE,gB,bq,cY,dn,d2,dV,dC,dA,aC,aN,fq,bA,Bd,nE,he,ak,h1,h2,h3,h4,List.map_cons,List.map_nil,List.cons_append,List.nil_append,List.length_cons,List.length_nil,List.getElem?_cons_zero,List.getElem?_cons_succ,cN,Nat.reduceAdd,Nat.zero_le,if_true,Bool.false_eq_true,if_false,dY,gI]
theorem iT(ns:List Int)(hl:ns.length≤63)(k m:Nat)(hm:0<m):∃v:Nat,v<m∧bf [.scr ns, .int (k:Int), .int (m:Int)]=M.ret (.int (v:Int)):=by
 obtain⟨c,hc⟩:=BF ns hl k
 have b1:=Int.emod_nonneg (c % 2147483563*69069+104723*((k:Int)+1)) (b:=2147483563) (by decide)
 have b2:=Int.emod_lt_of_pos (c % 2147483563*69069+104723*((k:Int)+1)) (b:=2147483563) (by decide)
 generalize hx:(c % 2147483563*69069+104723*((k:Int)+1)) % 2147483563=x at b1 b2
 have b3:=Int.emod_nonneg (x*x+x / 3) (b:=2147483399) (by decide)
 have b4:=Int.emod_lt_of_pos (x*x+x / 3) (b:=2147483399) (by decide)
 generalize hy:(x*x+x / 3) % 2147483399=y at b3 b4
 have m1:g6 (.int (c % 2147483563)) (.int 69069)=_:=fT (.inr ⟨by decide,by decide⟩)
 have m2:g6 (.int 104723) (.int ((k:Int)+1))=_:=fT (.inl ⟨by decide,by decide⟩)
 have m3:g6 (.int x) (.int x)=_:=fT (.inl ⟨by omega,by omega⟩)
 have m4:g6 (.int y) (.int y)=_:=fT (.inl ⟨by omega,by omega⟩)
 have hM:(0:Int)<(m:Int):=Int.ofNat_lt.mpr hm
 have n1:=Int.emod_nonneg ((y*y+y / 7) % 2147483647 / 11) (b:=(m:Int)) (by omega)
 have n2:=Int.emod_lt_of_pos ((y*y+y / 7) % 2147483647 / 11) hM
 have q1:jW (.int c) (.int 2147483563)=_:=fS (by decide)
 have q2:jW (.int (c % 2147483563*69069+104723*((k:Int)+1))) (.int 2147483563)=_:=fS (by decide)
 have q3:pJ (.int x) (.int 3)=_:=jV (by decide) (by decide)
 have q4:jW (.int (x*x+x / 3)) (.int 2147483399)=_:=fS (by decide)
 have q5:pJ (.int y) (.int 7)=_:=jV (by decide) (by decide)
 have q6:jW (.int (y*y+y / 7)) (.int 2147483647)=_:=fS (by decide)
 have q7:pJ (.int ((y*y+y / 7) % 2147483647)) (.int 11)=_:=jV (by decide) (by decide)
 have q8:jW (.int ((y*y+y / 7) % 2147483647 / 11)) (.int (m:Int))=_:=fS hM
 refine⟨((y*y+y / 7) % 2147483647 / 11 % (m:Int)).toNat,by omega,?_⟩
 rw[Int.toNat_of_nonneg n1]
 rw[hx] at q2
 rw[hy] at q4
 simp only[bf,mE,b0,aE,bN,bq,ai,d2,dV,dC,dA,aC,aN,ak,hc,List.map_cons,List.map_nil,List.cons_append,List.nil_append,List.length_cons,List.length_nil,List.getElem?_cons_zero,List.getElem?_cons_succ,List.replicate,List.set_cons_zero,List.set_cons_succ,Nat.reduceAdd,Nat.reduceSub,if_true,g0,m1,m2,m3,m4,q1,q2,q3,q4,q5,q6,q7,q8]
theorem CT{α:Type}(a:α):noex (M.ret a)=M.ret a:=rfl
theorem uj{put:D→a9→Option a9}{body:DS}{I:Nat→a9→Prop}:∀(ds:List D) (i:Nat) (ρ:a9),I i ρ→
 (∀j d,ds[j]? =some d→∀ρ,I (i+j) ρ→∃ρ1 ρ2,put d ρ=some ρ1∧body ρ1=M.ret (.nx ρ2)∧I (i+j+1) ρ2)→∃ρ',forL put body ds ρ=M.ret (.nx ρ')∧I (i+ds.length) ρ'
 |[],i,ρ,h,_=>⟨ρ,rfl,h⟩
 |d::ds,i,ρ,h,step=>by
  obtain⟨ρ1,ρ2,e1,e2,h2⟩:=step 0 d rfl ρ h
  obtain⟨ρ',e3,h3⟩:=uj (I:=I) ds (i+1) ρ2 h2 fun j d' hd ρ hI=>by
   have:=step (j+1) d' hd ρ (by rw[show i+(j+1)=i+1+j by omega];exact hI)
   rw[show i+(j+1)+1=i+1+j+1 by omega] at this
   exact this
  refine⟨ρ',?_,?_⟩
  ·show (match put d ρ with | none=>M.stuck | some ρ1=>body ρ1>>=fun o=>match o with | .nx ρ2=>forL put body ds ρ2 | .rt v=>M.ret (.rt v))=_
   rw[e1]
   show (body ρ1>>=fun o=>match o with | .nx ρ2=>forL put body ds ρ2 | .rt v=>M.ret (.rt v))=_
   rw[e2]
   exact e3
  ·rw[show i+(d::ds).length=i+1+ds.length by simp;omega]
   exact h3
theorem p_{f:D→M (Option D)}{Pr:D→Prop}:∀(ds:List D),(∀d∈ds,∃y,f d=M.ret (some y)∧Pr y)→∃ys,cP f ds=M.ret ys∧ys.length=ds.length∧∀y∈ys,Pr y
 |[],_=>⟨[],rfl,rfl,fun _ h=>by cases h⟩
 |d::ds,h=>by
  obtain⟨y,e,hy⟩:=h d (List.mem_cons_self ..)
  obtain⟨ys,e2,hl,hp⟩:=p_ ds fun d' hd=>h d' (List.mem_cons_of_mem _ hd)
  refine⟨y::ys,?_,by simp[hl],fun z hz=>?_⟩
  ·rw[cQ,e,ak,e2]
   rfl
  ·cases hz with
   |head=>exact hy
   |tail _ hz=>exact hp z hz
theorem fP{f:D→M (Option D)}{g:D→D}:∀(ds:List D),(∀d∈ds,f d=M.ret (some (g d)))→cP f ds=M.ret (ds.map g)
 |[],_=>rfl
 |d::ds,h=>by
  rw[cQ,h d (List.mem_cons_self ..),ak,fP ds fun d' hd=>h d' (List.mem_cons_of_mem _ hd)]
  rfl
def E9(x:Str):Bool:=!(Builtin.Str.occurrences ("abcdef":Str) x 0 ("abcdef":Str).length 1).isEmpty
structure Row (W:Nat) (r:Str):Prop where
 len:r.length=W
 let':∀c∈r.cps.toList,E9 ⟨#[c]⟩=true
structure Good (bd:List Str) (W:Nat):Prop where
 r1:1≤bd.length
 r5:bd.length≤5
 w1:1≤W
 w5:W≤5
 rows:∀r∈bd,Row W r
abbrev lE(c:Nat):Prop:=E9 ⟨#[c]⟩=true∧c≠101
def L5(r:Str):Prop:=∀c∈r.cps.toList,c≠101
theorem vH:∀(ys:List D),(∀y∈ys,∃c,y= .str ⟨#[c]⟩∧lE c)→∃xs,fL ys=some xs∧xs.length=ys.length∧(xs.map (·.length)).sum=ys.length∧Row ys.length (c7 xs)∧L5 (c7 xs)
 |[],_=>⟨[],rfl,rfl,rfl,⟨rfl,fun c h=>by cases h⟩,fun c h=>by cases h⟩
 |y::ys,h=>by
  obtain⟨c,e,hc⟩:=h y (List.mem_cons_self ..)
  obtain⟨xs,e1,e2,e3,e4,e5⟩:=vH ys fun z hz=>h z (List.mem_cons_of_mem _ hz)
  subst e
  have qi:∀z,z∈((⟨#[c]⟩:Str)++c7 xs).cps.toList→z=c∨z∈(c7 xs).cps.toList:=fun z hz=>by
   have:((⟨#[c]⟩:Str)++c7 xs).cps= #[c]++(c7 xs).cps:=rfl
   rw[this] at hz
   simpa using hz
  refine⟨⟨#[c]⟩::xs,?_,by simp[e2],?_,⟨?_,fun z hz=>?_⟩,fun z hz=>?_⟩
  ·show (fL ys).map _=_
   rw[e1]
   rfl
  ·rw[List.map_cons,List.sum_cons,e3]
   show 1+ys.length=_
   simp
   omega
  ·show ((⟨#[c]⟩:Str)++c7 xs).length=_
   rw[iL,e4.len]
   show 1+ys.length=_
   simp
   omega
  ·rcases qi z hz with rfl | q
   ·exact hc.1
   ·exact e4.let' z q
  ·rcases qi z hz with rfl | q
   ·exact hc.2
   ·exact e5 z q
theorem DQ{lo:Int}{n:Nat}{d:D}(h:d∈f9 lo n):∃i:Nat,i<n∧d= .int (lo+(i:Int)):=by
 unfold f9 at h
 obtain⟨i,hi,e⟩:=List.mem_map.mp h
 exact⟨i,List.mem_range.mp hi,e.symm⟩
theorem Gd{lo:Int}{n j:Nat}{d:D}(h:(f9 lo n)[j]? =some d):j<n∧d= .int (lo+(j:Int)):=by
 unfold f9 at h
 rw[List.getElem?_map] at h
 by_cases hj:j<n
 ·rw[List.getElem?_range hj] at h
  cases h
  exact⟨hj,rfl⟩
 ·rw[List.getElem?_eq_none (by simpa using hj)] at h
  cases h
theorem iw(lo:Int)(n:Nat):(f9 lo n).length=n:=by simp[f9]
abbrev fz(d:D):Option Sl:=some (.fz d)
theorem dS{δe:DE}{ρ:a9}{d:D}:eO 0 aP δe ρ d=(δe (fz d::ρ)>>=fun y=>M.ret (some y)):=rfl
theorem rK{δt:DT}{δe:DE}{ρ:a9}{d:D}:eO 0 δt δe ρ d=(δt (fz d::ρ)>>=fun b=>if b then δe (fz d::ρ)>>=fun y=>M.ret (some y) else M.ret none):=rfl
theorem aj{a b:DS}{ρ ρ':a9}{o:M Out}(h:a ρ=M.ret (.nx ρ'))(h2:b ρ'=o):aE a b ρ=o:=by
 unfold aE
 rw[h]
 exact h2
theorem dJ{a b:DS}{ρ:a9}{d:D}(h:a ρ=M.ret (.rt d)):aE a b ρ=M.ret (.rt d):=by
 unfold aE
 rw[h]
 rfl
theorem aR{i:Nat}{δ:DE}{ρ:a9}{d:D}(h:δ ρ=M.ret d):bN i δ ρ=M.ret (.nx (ρ.set i (fz d))):=by
 unfold bN
 rw[h]
 rfl
theorem fC{c:DT}{a b:DS}{ρ:a9}{o:M Out}(h:c ρ=M.ret true)(h2:a ρ=o):gB c a b ρ=o:=by
 unfold gB
 rw[h]
 exact h2
theorem dR{c:DT}{a b:DS}{ρ:a9}{o:M Out}(h:c ρ=M.ret false)(h2:b ρ=o):gB c a b ρ=o:=by
 unfold gB
 rw[h]
 exact h2
theorem aH{δ:DE}{ρ:a9}{d:D}(h:δ ρ=M.ret d):bq δ ρ=M.ret (.rt d):=by
 unfold bq
 rw[h]
 rfl
theorem bu{δ:DE}{ρ:a9}{d:D}(h:δ ρ=M.ret d):fi δ ρ=M.ret (.nx ρ):=by
 unfold fi
 rw[h]
 rfl
theorem aU{n:Nat}{τ:DS}{ds:List D}{d:D}(h:τ (ds.map (fun d=>some (Sl.fz d))++List.replicate (n - ds.length) none)=M.ret (.rt d)):b0 n τ ds=M.ret d:=by
 unfold b0
 rw[h]
 rfl
theorem y_{n:Nat}{τ:DS}{ds:List D}{ρ:a9}(h:τ (ds.map (fun d=>some (Sl.fz d))++List.replicate (n - ds.length) none)=M.ret (.nx ρ)):b0 n τ ds=M.ret .non:=by
 unfold b0
 rw[h]
 rfl
theorem DU{put:D→a9→Option a9}{δi:DA}{b:DS}{ρ:a9}{ds:List D}{o:Out}(h:δi ρ=M.ret ds)(h2:forL put b ds ρ=M.ret o):noex (dH put δi b ρ)=M.ret o:=by
 unfold dH
 rw[h,ak,h2]
 rfl
theorem bD{is:List Nat}{τ:DS}{ρ ρ':a9}(h:τ ρ=M.ret (.nx ρ')):cH is τ ρ=M.ret (.nx (fgt is ρ')):=by
 unfold cH
 rw[h]
 rfl
theorem aX{n:Nat}{δi:DA}{δt:DT}{δe:DE}{ρ:a9}{ds ys:List D}(h:δi ρ=M.ret ds)(h2:cP (eO n δt δe ρ) ds=M.ret ys)(h3:ys.length≤lim):aJ n δi δt δe ρ=M.ret (.lst ys):=by
 unfold aJ
 rw[h,ak,h2,CT,ak,CL h3]
theorem lL{n:Nat}(h:n≤4096):ix [.int (n:Int)]=M.ret (f9 0 n):=by
 show (if -4096≤(n:Int)∧(n:Int)≤4096 then M.ret (f9 0 (n:Int).toNat) else M.stuck)=_
 rw[if_pos ⟨by omega,by omega⟩]
 rfl
structure Alpha (al:Str):Prop where
 pos:0<al.length
 ok:∀c∈al.cps.toList,lE c
theorem Hk:Alpha "ab"∧Alpha "abc"∧Alpha "aab"∧Alpha "fa":=by
 refine⟨⟨by decide+kernel,?_⟩,⟨by decide+kernel,?_⟩,⟨by decide+kernel,?_⟩,⟨by decide+kernel,?_⟩⟩<;>decide+kernel
theorem B6{x:Str}{i:Nat}(h:i<x.length):∃c,c∈x.cps.toList∧x.cps.toList[i]? =some c∧mJ (.str x) (.int (i:Int))=M.ret (.str ⟨#[c]⟩):=by
 have h:i<x.cps.toList.length:=by rw[Array.length_toList];exact h
 refine⟨x.cps.toList[i],List.getElem_mem h,List.getElem?_eq_getElem h,?_⟩
 show (match L2.atI x.cps.toList (i:Int) with | some c=>M.ret (D.str ⟨#[c]⟩) | none=>M.stuck)=_
 rw[eM (List.getElem?_eq_getElem h)]
abbrev brd(bd:List Str):D:= .tup (bd.map D.str)
abbrev sgn(at' mo:Nat)(ns:List Int)(W:Nat)(al:Str)(bd:List Str)(R:Nat)(x7 x8:Option Sl):a9:=[fz (.scr ns),fz (.int (at':Int)),fz (.int (mo:Int)),fz (.int (R:Int)),fz (.int (W:Int)),fz (.str al),fz (brd bd),x7,x8]
def PV:DE:=aJ 0 (fun ρ=>(aC (dV 4) aN) ρ>>=ix) aP (d2 mJ (dV 6) (ai 3 bf (aC (dV 1) (aC (d2 dY (d2 dY (d2 dY (dV 2) (dC (.int 3))) (d2 g6 (dC (.int 7)) (dV 8))) (dV 0)) (aC (dA bA (aC (dV 6) aN)) aN)))))
theorem AU(at' mo:Nat)(ns:List Int)(hl:ns.length≤63)(al:Str)(ha:Alpha al)(j W R:Nat)(hW:W≤5)(bd:List Str)(x8:Option Sl):
 ∃ys,PV (sgn at' mo ns W al bd R (fz (.int (0+(j:Int)))) x8)=M.ret (.lst ys)∧ys.length=W∧∀y∈ys,∃c,y= .str ⟨#[c]⟩∧lE c:=by
 obtain⟨ys,e,wH,hp⟩:=p_ (f:=eO 0 aP (d2 mJ (dV 6) (ai 3 bf (aC (dV 1) (aC (d2 dY (d2 dY (d2 dY (dV 2) (dC (.int 3))) (d2 g6 (dC (.int 7)) (dV 8))) (dV 0)) (aC (dA bA (aC (dV 6) aN)) aN)))))
  (sgn at' mo ns W al bd R (fz (.int (0+(j:Int)))) x8)) (Pr:=fun y=>∃c,y= .str ⟨#[c]⟩∧lE c) (f9 0 W) fun d hd=>by
  obtain⟨i,hi,rfl⟩:=DQ hd
  obtain⟨v,hv,e⟩:=iT ns hl (at'+3+7*j+i) al.length ha.pos
  obtain⟨c,hc,_,e2⟩:=B6 hv
  refine⟨.str ⟨#[c]⟩,?_,c,rfl,ha.ok c hc⟩
  rw[dS]
  have k:(at':Int)+3+7*(0+(j:Int))+(0+(i:Int))=((at'+3+7*j+i:Nat):Int):=by omega
  have m1:g6 (.int 7) (.int (0+(j:Int)))=M.ret (.int (7*(0+(j:Int)))):=fT (.inl ⟨by decide,by decide⟩)
  simp only[ai,d2,dV,dC,dA,aC,aN,ak,List.length_cons,List.length_nil,List.getElem?_cons_zero,List.getElem?_cons_succ,Nat.reduceAdd,if_true,g0,m1,k,bA,e,e2]
 refine⟨ys,aX (lL (n:=W) (by omega)) e (by rw[wH,iw,cN];omega),by rw[wH,iw],hp⟩
def PX:DS:=bN 6 (d2 um (dV 6) (dA dm (aC (dM nQ joinM (dC (.str "")) (aC (dV 8) aN)) aN)))
theorem EJ(at' mo:Nat)(ns:List Int)(W:Nat)(al:Str)(bd:List Str)(R:Nat)(x7:Option Sl)(ys:List D)(hb:bd.length≤5)(hy:ys.length≤5)(s3:∀y∈ys,∃c,y= .str ⟨#[c]⟩∧lE c):
 ∃r,(Row ys.length r∧L5 r)∧PX (sgn at' mo ns W al bd R x7 (fz (.lst ys)))=M.ret (.nx (sgn at' mo ns W al (bd++[r]) R x7 (fz (.lst ys)))):=by
 obtain⟨xs,t1,t2,t3,t4⟩:=vH ys s3
 refine⟨c7 xs,t4,?_⟩
 have jn:joinM (.str "") [.lst ys]=M.ret (.str (c7 xs)):=by
  show (match fL ys with | some (xs:List Str)=>if ("":Str).length=0∧(xs.map (fun x:Str=>x.length)).sum≤lim then M.ret (D.str (c7 xs)) else M.stuck | none=>M.stuck)=_
  rw[t1]
  show (if ("":Str).length=0∧(xs.map (fun x:Str=>x.length)).sum≤lim then M.ret (D.str (c7 xs)) else M.stuck)=_
  rw[if_pos ⟨rfl,by rw[t3,cN];omega⟩]
 have ct:um (brd bd) (.tup [.str (c7 xs)])=M.ret (brd (bd++[c7 xs])):=by
  show (if (bd.map D.str).length+1≤lim then M.ret (D.tup (bd.map D.str++[.str (c7 xs)])) else M.stuck)=_
  rw[if_pos (by rw[List.length_map,cN];omega)]
  simp[brd]
 refine(aR (d:=brd (bd++[c7 xs])) ?_).trans rfl
 simp only[d2,dV,dC,dA,aC,aN,dM,nQ,ak,List.getElem?_cons_zero,List.getElem?_cons_succ,if_true,jn,dm,List.length_cons,List.length_nil,cN,Nat.reduceAdd,Nat.reduceLeDiff,ct]
theorem wb(ns:List Int)(hl:ns.length≤63)(at' mo:Nat)(m0:0<mo)(m5:mo≤5):∃bd W,Good bd W∧(∀r∈bd,L5 r)∧bd.length≤mo∧W≤mo∧ei [.scr ns, .int (at':Int), .int (mo:Int)]=M.ret (brd bd):=by
 obtain⟨r,hr,e1⟩:=iT ns hl at' mo m0
 obtain⟨c,hc,e2⟩:=iT ns hl (at'+1) mo m0
 obtain⟨a,ha,e3⟩:=iT ns hl (at'+2) 4 (by decide)
 obtain⟨al,Kt,e4⟩:∃al,Alpha al∧dq (.lst [.str "ab", .str "abc", .str "aab", .str "fa"]) (.int (a:Int))=M.ret (.str al):=by
  obtain⟨a1,a2,a3,a4⟩:=Hk
  match a,ha with
  |0,_=>exact⟨_,a1,rfl⟩
  |1,_=>exact⟨_,a2,rfl⟩
  |2,_=>exact⟨_,a3,rfl⟩
  |3,_=>exact⟨_,a4,rfl⟩
 have k1:(1:Int)+(r:Int)=((r+1:Nat):Int):=by omega
 have k2:(1:Int)+(c:Int)=((c+1:Nat):Int):=by omega
 have Bf:bf [.scr ns, .int (at':Int), .int (mo:Int)]=M.ret (.int (r:Int)):=e1
 have JM:bf [.scr ns, .int ((at':Int)+1), .int (mo:Int)]=M.ret (.int (c:Int)):=e2
 have L9:bf [.scr ns, .int ((at':Int)+2), .int 4]=M.ret (.int (a:Int)):=e3
 obtain⟨ρ',f1,bd,f2,f3,f4⟩:=uj (put:=putN 7) (body:=cH [7,8] (aE (bN 8 PV) PX))
  (I:=fun i ρ=>∃bd,ρ=sgn at' mo ns (c+1) al bd (r+1) none none∧bd.length=i∧∀z∈bd,Row (c+1) z∧L5 z)
  (f9 0 (r+1)) 0 (sgn at' mo ns (c+1) al [] (r+1) none none) ⟨[],rfl,rfl,fun _ h=>by cases h⟩ fun j d hd ρ ⟨bd,hρ,hb,hw⟩=>by
   obtain⟨hj,rfl⟩:=Gd hd
   subst hρ
   obtain⟨ys,s1,s2,s3⟩:=AU at' mo ns hl al Kt j (c+1) (r+1) (by omega) bd none
   obtain⟨Bo,t1,t2⟩:=EJ at' mo ns (c+1) al bd (r+1) (fz (.int (0+(j:Int)))) ys (by omega) (by omega) s3
   refine⟨_,_,rfl,bD (aj (aR s1) t2),bd++[Bo],rfl,by simp[hb],fun z hz=>?_⟩
   rcases List.mem_append.mp hz with h | h
   ·exact hw z h
   ·have h:z=Bo:=by simpa using h
    subst h
    rw[s2] at t1
    exact t1
 refine⟨bd,c+1,⟨by rw[f3,iw];omega,by rw[f3,iw];omega,by omega,by omega,fun r q=>(f4 r q).1⟩,fun r q=>(f4 r q).2,by rw[f3,iw];omega,by omega,?_⟩
 subst f2
 refine aU ?_
 refine aj (aR (d:= .int ((r+1:Nat):Int)) ?_) ?_
 ·simp only[ai,d2,dV,dC,aC,aN,ak,List.map_cons,List.map_nil,List.cons_append,List.nil_append,List.length_cons,List.length_nil,List.getElem?_cons_zero,List.getElem?_cons_succ,Nat.reduceAdd,if_true,g0,Bf,k1]
 refine aj (aR (d:= .int ((c+1:Nat):Int)) ?_) ?_
 ·simp only[ai,d2,dV,dC,aC,aN,ak,List.map_cons,List.map_nil,List.cons_append,List.nil_append,List.length_cons,List.length_nil,List.replicate,List.set_cons_zero,List.set_cons_succ,Nat.reduceSub,List.getElem?_cons_zero,List.getElem?_cons_succ,Nat.reduceAdd,if_true,g0,JM,k2]
 refine aj (aR (d:= .str al) ?_) ?_
 ·simp only[ai,d2,dV,dC,dA,aC,aN,ak,List.map_cons,List.map_nil,List.cons_append,List.nil_append,List.length_cons,List.length_nil,List.replicate,List.set_cons_zero,List.set_cons_succ,Nat.reduceSub,List.getElem?_cons_zero,List.getElem?_cons_succ,Nat.reduceAdd,if_true,g0,L9,fq,cN,Nat.reduceLeDiff,e4]
 refine aj (aR (d:= .tup []) rfl) ?_
 refine aj (DU (lL (n:=r+1) (by omega)) f1) ?_
 exact aH rfl
def Plain:D→Prop
 | .non | .bl _ | .int _ | .str _ | .tup _ | .lst _=>True
 |_=>False
def isStr:D→Bool
 | .str _=>true
 |_=>false
def isTup:D→Bool
 | .tup _=>true
 |_=>false
theorem fo{d:D}(h:Plain d):gS [d, .raw (.ty "str")]=M.ret (.bl (isStr d)):=by
 cases d<;>first | rfl | exact h.elim
theorem mS{d:D}(h:Plain d):gS [d, .raw (.ty "tuple")]=M.ret (.bl (isTup d)):=by
 cases d<;>first | rfl | exact h.elim
def r_:D→Bool
 | .str x=>(x.length==1)&&E9 x
 |_=>false
theorem dU{ρ:a9}{i:Nat}{d:D}(h:ρ[i]? =some (fz d)):dV i ρ=M.ret d:=by
 unfold dV
 rw[h]
theorem eq_int(i j:Int):nE (.int i) (.int j)=M.ret (.bl (i==j)):=rfl
theorem ne_int(i j:Int):jB (.int i) (.int j)=M.ret (.bl (!(i==j))):=rfl
theorem len_str(x:Str):bA [.str x]=M.ret (.int (x.length:Int)):=rfl
theorem in_str(x:Str):pL false (.str x) (.str "abcdef")=M.ret (.bl (E9 x)):=rfl
theorem kh(a b:Nat):((a:Int)==(b:Int))=(a==b):=by
 by_cases h:a=b
 ·subst h;simp
 ·have h2:¬(a:Int)=(b:Int):=by omega
  rw[beq_eq_false_iff_ne.mpr h,beq_eq_false_iff_ne.mpr h2]
theorem Fp{d:D}(h:Plain d){i:Nat}{ρ:a9}(hρ:ρ[i]? =some (fz d)):
 eP (dA gS (aC (dV i) (aC (dC (.raw (.ty "str"))) aN))) (eP (d2 nE (dA bA (aC (dV i) aN)) (dC (.int 1))) (d2 (pL false) (dV i) (dC (.str "abcdef")))) ρ=M.ret (.bl (r_ d)):=by
 have hv:=dU hρ
 have e1:=kh
 cases d with
 |str x=>
  have k:((x.length:Int)==1)=(x.length==1):=kh x.length 1
  simp only[eP,dA,aC,aN,dC,d2,hv,ak,fo h,isStr,Bd,if_true,len_str,eq_int,k,in_str,r_]
  cases x.length==1<;>rfl
 |non=>simp only[eP,dA,aC,aN,dC,d2,hv,ak,fo h,isStr,Bd,if_false,Bool.false_eq_true,r_]
 |bl b=>simp only[eP,dA,aC,aN,dC,d2,hv,ak,fo h,isStr,Bd,if_false,Bool.false_eq_true,r_]
 |int b=>simp only[eP,dA,aC,aN,dC,d2,hv,ak,fo h,isStr,Bd,if_false,Bool.false_eq_true,r_]
 |tup b=>simp only[eP,dA,aC,aN,dC,d2,hv,ak,fo h,isStr,Bd,if_false,Bool.false_eq_true,r_]
 |lst b=>simp only[eP,dA,aC,aN,dC,d2,hv,ak,fo h,isStr,Bd,if_false,Bool.false_eq_true,r_]
 |raw _=>exact h.elim
 |exc _=>exact h.elim
 |scr _=>exact h.elim
 |dct _ _=>exact h.elim
 |dci _ _=>exact h.elim
theorem pO{d:D}(h:Plain d):cR [d]=M.ret (.bl (r_ d)):=aU (aH (Fp h rfl))
def iY(x:Str):Bool:=x.cps.toList.all fun c=>E9 ⟨#[c]⟩
def mM:D→Bool
 | .str x=>(decide (1≤x.length)&&decide (x.length≤8))&&iY x
 |_=>false
theorem zr(l:List Bool):bools (l.map D.bl)=some l:=by
 induction l with
 |nil=>rfl
 |cons b r ih=>show (bools (r.map D.bl)).map _=_;rw[ih];rfl
theorem all_map(l:List Bool):allM [.lst (l.map D.bl)]=M.ret (.bl (l.all id)):=by
 show (match bools (l.map D.bl) with | some bs=>M.ret (D.bl (bs.all id)) | none=>M.stuck)=_
 rw[zr]
theorem BG{δ:DE}{ρ:a9}{n:Nat}(h:δ ρ=M.ret (.int (n:Int))):
 dn (wk (fun i j=>decide (i≤j)) (fun i j=>decide (i≤j)) (dC (.int 1)) δ (dC (.int 8))) ρ=M.ret (decide (1≤n)&&decide (n≤8)):=by
 have k1:decide ((1:Int)≤(n:Int))=decide (1≤n):=by by_cases h:1≤n<;>simp[h]<;>omega
 have k2:decide ((n:Int)≤8)=decide (n≤8):=by by_cases h:n≤8<;>simp[h]<;>omega
 simp only[dn,wk,dC,h,ak,k1,k2,gI,Bd]
 cases decide (1≤n)<;>rfl
theorem wO{d:D}(h:Plain d):eR [d]=M.ret (.bl (mM d)):=by
 refine aU ?_
 have hρ:([d].map (fun d=>some (Sl.fz d))++List.replicate (1 - [d].length) none)=[fz d]:=rfl
 rw[hρ]
 have hv:dV 0 [fz d]=M.ret d:=rfl
 have no:isStr d=false→vT [fz d]=M.ret (.rt (.bl false)):=fun hs=>by
  refine dJ (fC ?_ (aH rfl))
  simp only[kX,cW,cJ,dA,aC,aN,dC,hv,ak,fo h,hs,vG,Bool.not_false,if_true]
 cases d with
 |str x=>
  have hi:cJ (dA gS (aC (dV 0) (aC (dC (.raw (.ty "str"))) aN))) [fz (.str x)]=M.ret true:=by
   simp only[cJ,dA,aC,aN,dC,hv,ak,fo h,isStr,vG]
  have hl:dA bA (aC (dV 0) aN) [fz (.str x)]=M.ret (.int (x.length:Int)):=rfl
  have hc:=BG hl
  by_cases hr:(decide (1≤x.length)&&decide (x.length≤8))=true
  ·rw[hr] at hc
   refine aj (dR ?_ (ρ:=[fz (.str x)]) rfl) (aH ?_)
   ·unfold kX cW
    rw[hi,ak,ak,hc]
    rfl
   ·have hb:x.length≤8:=by simp only[Bool.and_eq_true,decide_eq_true_eq] at hr;exact hr.2
    have cm:aJ 0 (fun ρ=>(dV 0) ρ>>=o7) aP (ai 1 cR (aC (dV 0) aN)) [fz (.str x)]=M.ret (.lst ((x.cps.toList.map fun c=>E9 ⟨#[c]⟩).map D.bl)):=by
     refine aX (ds:=signs x) rfl ?_ ?_
     ·have:=fP (f:=eO 0 aP (ai 1 cR (aC (dV 0) aN)) [fz (.str x)]) (g:=fun d=>D.bl (r_ d)) (signs x) fun d hd=>by
       rw[dS]
       obtain⟨c,_,rfl⟩:=List.mem_map.mp hd
       show (cR [.str ⟨#[c]⟩]>>=fun y=>M.ret (some y))=_
       rw[pO (d:= .str ⟨#[c]⟩) trivial]
       rfl
      rw[this]
      unfold signs
      rw[List.map_map,List.map_map]
      congr 1
     ·rw[List.length_map,List.length_map,Array.length_toList,cN]
      exact Nat.le_trans hb (by decide)
    rw[cC (aS cm rfl),all_map]
    show M.ret (D.bl ((x.cps.toList.map fun c=>E9 ⟨#[c]⟩).all id))=M.ret (D.bl ((decide (1≤x.length)&&decide (x.length≤8))&&iY x))
    rw[hr]
    unfold iY
    rw[List.all_map]
    rfl
  ·have hr:(decide (1≤x.length)&&decide (x.length≤8))=false:=by simpa using hr
   rw[hr] at hc
   have:mM (.str x)=false:=by
    show ((decide (1≤x.length)&&decide (x.length≤8))&&iY x)=false
    rw[hr];rfl
   rw[this]
   refine dJ (fC ?_ (aH rfl))
   unfold kX cW
   rw[hi,ak,ak,hc]
   rfl
 |non=>exact no rfl
 |bl b=>exact no rfl
 |int b=>exact no rfl
 |tup b=>exact no rfl
 |lst b=>exact no rfl
 |raw _=>exact h.elim
 |exc _=>exact h.elim
 |scr _=>exact h.elim
 |dct _ _=>exact h.elim
 |dci _ _=>exact h.elim
def jD:D→Nat
 | .str x=>x.length
 |_=>0
def nh:D→Bool
 | .tup ds=>(decide (1≤ds.length)&&decide (ds.length≤8))&&(ds.all mM&&ds.all fun d=>jD d==jD (ds.headD .non))
 |_=>false
def Plain2:D→Prop
 | .tup ds=>∀d∈ds,Plain d
 |d=>Plain d
theorem Plain2.plain{d:D}(h:Plain2 d):Plain d:=by
 cases d<;>first | exact h | exact trivial
theorem Pu{ρ:a9}{i:Nat}{ds:List D}(h:ρ[i]? =some (fz (.tup ds))):gk (dV i) ρ=M.ret ds:=by
 unfold gk
 rw[dU h]
 rfl
theorem Fl{ds:List D}:bA [.tup ds]=M.ret (.int (ds.length:Int)):=rfl
theorem N0{ds:List D}{d:D}{r:List D}(h:ds=d::r):bt (.tup ds) (.int 0)=M.ret d:=by
 subst h
 show (match L2.atI (d::r) ((0:Nat):Int) with | some d=>M.ret d | none=>M.stuck)=_
 rw[eM (x:=d) rfl]
theorem Gf{d:D}(h:mM d=true):∃x,d= .str x:=by
 cases d<;>first | exact⟨_,rfl⟩ | cases h
theorem zK{d:D}(h:Plain d):kX (cW (cJ (dA gS (aC (dV 0) (aC (dC (.raw (.ty "tuple"))) aN))))) (cW (dn (wk (fun i j=>decide (i≤j)) (fun i j=>decide (i≤j)) (dC (.int 1)) (dA bA (aC (dV 0) aN)) (dC (.int 8))))) [fz d]=
 M.ret (match d with | .tup ds=>!(decide (1≤ds.length)&&decide (ds.length≤8)) | _=>true):=by
 have hv:dV 0 [fz d]=M.ret d:=rfl
 have no:isTup d=false→kX (cW (cJ (dA gS (aC (dV 0) (aC (dC (.raw (.ty "tuple"))) aN))))) (cW (dn (wk (fun i j=>decide (i≤j)) (fun i j=>decide (i≤j)) (dC (.int 1)) (dA bA (aC (dV 0) aN)) (dC (.int 8))))) [fz d]=M.ret true:=fun hs=>by
  simp only[kX,cW,cJ,dA,aC,aN,dC,hv,ak,mS h,hs,vG,Bool.not_false,if_true]
 cases d with
 |tup ds=>
  have hi:cJ (dA gS (aC (dV 0) (aC (dC (.raw (.ty "tuple"))) aN))) [fz (.tup ds)]=M.ret true:=by
   simp only[cJ,dA,aC,aN,dC,hv,ak,mS h,isTup,vG]
  have hl:dA bA (aC (dV 0) aN) [fz (.tup ds)]=M.ret (.int (ds.length:Int)):=rfl
  unfold kX cW
  rw[hi,ak,ak,BG hl]
  rfl
 |non=>exact no rfl
 |bl b=>exact no rfl
 |int b=>exact no rfl
 |str b=>exact no rfl
 |lst b=>exact no rfl
 |raw _=>exact h.elim
 |exc _=>exact h.elim
 |scr _=>exact h.elim
 |dct _ _=>exact h.elim
 |dci _ _=>exact h.elim
theorem all_rows{ds:List D}(h:∀d∈ds,Plain d)(hl:ds.length≤8):dA allM (aC (aJ 0 (gk (dV 0)) aP (ai 1 eR (aC (dV 0) aN))) aN) [fz (.tup ds)]=M.ret (.bl (ds.all mM)):=by
 have cm:aJ 0 (gk (dV 0)) aP (ai 1 eR (aC (dV 0) aN)) [fz (.tup ds)]=M.ret (.lst ((ds.map mM).map D.bl)):=by
  refine aX (ds:=ds) rfl ?_ (by rw[List.length_map,List.length_map,cN];omega)
  rw[List.map_map]
  refine fP (g:=D.bl∘mM) ds fun d hd=>?_
  rw[dS]
  show (eR [d]>>=fun y=>M.ret (some y))=_
  rw[wO (h d hd)]
  rfl
 rw[cC (aS cm rfl),all_map,List.all_map]
 rfl
theorem all_lens{ds:List D}(hs:∀d∈ds,∃x,d= .str x)(h0:1≤ds.length)(hl:ds.length≤8):
 dA allM (aC (aJ 0 (gk (dV 0)) aP (d2 nE (dA bA (aC (dV 0) aN)) (dA bA (aC (d2 bt (dV 1) (dC (.int 0))) aN)))) aN) [fz (.tup ds)]=M.ret (.bl (ds.all fun d=>jD d==jD (ds.headD .non))):=by
 obtain⟨d0,r,e0⟩:∃d0 r,ds=d0::r:=by
  cases ds with
  |nil=>simp at h0
  |cons a r=>exact⟨a,r,rfl⟩
 have hh:ds.headD .non=d0:=by rw[e0];rfl
 obtain⟨x0,Pl⟩:=hs d0 (by rw[e0];exact List.mem_cons_self ..)
 have cm:aJ 0 (gk (dV 0)) aP (d2 nE (dA bA (aC (dV 0) aN)) (dA bA (aC (d2 bt (dV 1) (dC (.int 0))) aN))) [fz (.tup ds)]=M.ret (.lst ((ds.map fun d=>jD d==jD (ds.headD .non)).map D.bl)):=by
  refine aX (ds:=ds) rfl ?_ (by rw[List.length_map,List.length_map,cN];omega)
  rw[List.map_map]
  refine fP (g:=D.bl∘fun d=>jD d==jD (ds.headD .non)) ds fun d hd=>?_
  rw[dS]
  obtain⟨x,rfl⟩:=hs d hd
  have k:((x.length:Int)==(x0.length:Int))=(x.length==x0.length):=kh _ _
  have i0:bt (.tup ds) (.int 0)=M.ret (.str x0):=by rw[N0 e0,Pl]
  have QK:ds.headD .non= .str x0:=by rw[hh,Pl]
  simp only[d2,dA,aC,aN,dC,dV,ak,List.getElem?_cons_zero,List.getElem?_cons_succ,len_str,i0,eq_int,k,Function.comp,jD,QK]
 rw[cC (aS cm rfl),all_map,List.all_map]
 rfl
theorem r6{d:D}(h:Plain2 d):gm [d]=M.ret (.bl (nh d)):=by
 refine aU ?_
 have hρ:([d].map (fun d=>some (Sl.fz d))++List.replicate (1 - [d].length) none)=[fz d]:=rfl
 rw[hρ]
 have hf:=zK h.plain
 have no:(∀ds,d≠ .tup ds)→pw [fz d]=M.ret (.rt (.bl (nh d))):=fun hn=>by
  cases d<;>first | exact absurd rfl (hn _) | exact dJ (fC hf (aH rfl))
 cases d with
 |tup ds=>
  have hf:_=M.ret (!(decide (1≤ds.length)&&decide (ds.length≤8))):=hf
  by_cases hr:(decide (1≤ds.length)&&decide (ds.length≤8))=true
  ·rw[hr] at hf
   have hb:=hr
   simp only[Bool.and_eq_true,decide_eq_true_eq] at hb
   have e:nh (.tup ds)=(ds.all mM&&ds.all fun d=>jD d==jD (ds.headD .non)):=by
    show ((decide (1≤ds.length)&&decide (ds.length≤8))&&_)=_
    rw[hr,Bool.true_and]
   rw[e]
   have a1:=all_rows h hb.2
   refine aj (dR hf rfl) ?_
   cases hc:ds.all mM with
   |false=>
    rw[hc] at a1
    refine dJ (fC ?_ (aH rfl))
    unfold cW cJ
    rw[a1]
    rfl
   |true=>
    rw[hc] at a1
    refine aj (dR ?_ rfl) (aH ?_)
    ·unfold cW cJ
     rw[a1]
     rfl
    ·rw[Bool.true_and]
     exact all_lens (fun d hd=>Gf (List.all_eq_true.mp hc d hd)) hb.1 hb.2
  ·have hr:(decide (1≤ds.length)&&decide (ds.length≤8))=false:=by simpa using hr
   rw[hr] at hf
   have e:nh (.tup ds)=false:=by
    show ((decide (1≤ds.length)&&decide (ds.length≤8))&&_)=_
    rw[hr];rfl
   rw[e]
   exact dJ (fC hf (aH rfl))
 |non=>exact no fun _ z=>by cases z
 |bl b=>exact no fun _ z=>by cases z
 |int b=>exact no fun _ z=>by cases z
 |str b=>exact no fun _ z=>by cases z
 |lst b=>exact no fun _ z=>by cases z
 |raw _=>exact h.elim
 |exc _=>exact h.elim
 |scr _=>exact h.elim
 |dct _ _=>exact h.elim
 |dci _ _=>exact h.elim
structure Brd (ob:List Str) (V:Nat):Prop where
 r1:1≤ob.length
 r8:ob.length≤8
 w1:1≤V
 w8:V≤8
 rows:∀r∈ob,Row V r
theorem Good.brd{bd:List Str}{W:Nat}(hg:Good bd W):Brd bd W:=⟨hg.r1,by have:=hg.r5;omega,hg.w1,by have:=hg.w5;omega,hg.rows⟩
theorem Brd.board{ob:List Str}{V:Nat}(h:Brd ob V):nh (brd ob)=true:=by
 have NK:∀r∈ob,mM (.str r)=true:=fun r hr=>by
  have q:=h.rows r hr
  show ((decide (1≤r.length)&&decide (r.length≤8))&&iY r)=true
  rw[q.len]
  have a:decide (1≤V)=true:=decide_eq_true h.w1
  have b:decide (V≤8)=true:=decide_eq_true h.w8
  rw[a,b]
  show iY r=true
  exact List.all_eq_true.mpr fun c hc=>q.let' c hc
 have h0:jD ((ob.map D.str).headD .non)=V:=by
  have:=h.r1
  have hr:=h.rows
  cases ob with
  |nil=>simp at this
  |cons x l=>exact(hr x (List.mem_cons_self ..)).len
 show ((decide (1≤(ob.map D.str).length)&&decide ((ob.map D.str).length≤8))&&((ob.map D.str).all mM&&(ob.map D.str).all fun d=>jD d==jD ((ob.map D.str).headD .non)))=true
 rw[h0,List.length_map,decide_eq_true h.r1,decide_eq_true h.r8]
 have a:(ob.map D.str).all mM=true:=List.all_eq_true.mpr fun d hd=>by
  obtain⟨r,hr,rfl⟩:=List.mem_map.mp hd
  exact NK r hr
 have b:((ob.map D.str).all fun d=>jD d==V)=true:=List.all_eq_true.mpr fun d hd=>by
  obtain⟨r,hr,rfl⟩:=List.mem_map.mp hd
  show (r.length==V)=true
  rw[(h.rows r hr).len]
  simp
 rw[a,b]
 rfl
theorem zt{bd:List Str}:Plain2 (brd bd):=fun d hd=>by
 obtain⟨r,_,rfl⟩:=List.mem_map.mp hd
 trivial
theorem wq{δ:DE}{ρ:a9}{b:Bool}(h:δ ρ=M.ret (.bl b)):cJ δ ρ=M.ret b:=by
 unfold cJ
 rw[h]
 rfl
theorem gT{δ:DE}{ρ:a9}{b:Bool}(h:δ ρ=M.ret (.bl b)):dn δ ρ=M.ret b:=by
 unfold dn
 rw[h]
 rfl
theorem BL{τ:DT}{ρ:a9}{b:Bool}(h:τ ρ=M.ret b):cW τ ρ=M.ret (!b):=by
 unfold cW
 rw[h]
 rfl
theorem BM{a c:DT}{ρ:a9}{p q:Bool}(h1:a ρ=M.ret p)(h2:c ρ=M.ret q):kX a c ρ=M.ret (p||q):=by
 unfold kX
 rw[h1,ak]
 cases p
 ·exact h2
 ·rfl
theorem Brd.nb{ob:List Str}{V:Nat}(h:Brd ob V):aA [brd ob]=M.ret .non:=by
 refine y_ (ρ:=[fz (brd ob)]) (dR (BL (wq (b:=true) ?_)) rfl)
 refine(ao (ds:=[brd ob]) rfl rfl).trans ?_
 rw[r6 zt,h.board]
theorem Brd.len0{ob:List Str}{V:Nat}(h:Brd ob V){i:Nat}{ρ:a9}(hρ:ρ[i]? =some (fz (brd ob))):dA bA (aC (d2 bt (dV i) (dC (.int 0))) aN) ρ=M.ret (.int (V:Int)):=by
 have h1:=h.r1
 have hr:=h.rows
 obtain⟨x,l,e⟩:∃x l,ob=x::l:=by
  cases ob with
  |nil=>simp at h1
  |cons x l=>exact⟨x,l,rfl⟩
 have hx:x.length=V:=(hr x (by rw[e];exact List.mem_cons_self ..)).len
 have i0:bt (brd ob) (.int 0)=M.ret (.str x):=N0 (show ob.map D.str=D.str x::l.map D.str by rw[e];rfl)
 have k:=bo (g:=bt) (dU hρ) (show dC (.int 0) ρ=M.ret (.int 0) from rfl)
 rw[i0] at k
 rw[cC (aS (xs:=[]) k rfl)]
 show M.ret (D.int (x.length:Int))=_
 rw[hx]
theorem IH{bd:List Str}{i:Nat}{ρ:a9}(hρ:ρ[i]? =some (fz (brd bd))):dA bA (aC (dV i) aN) ρ=M.ret (.int (bd.length:Int)):=by
 have:bA [brd bd]=M.ret (.int (bd.length:Int)):=by
  show M.ret (D.int ((bd.map D.str).length:Int))=_
  rw[List.length_map]
 simp only[dA,aC,aN,dU hρ,ak,this]
def gP:D→Bool
 | .int _=>true
 |_=>false
theorem rj{d:D}(h:Plain d):bw [d]=M.ret (.bl (gP d)):=by
 cases d<;>first | rfl | exact h.elim
def J_(R W:Nat):D→D→Bool
 | .int a, .int b=>(decide (0≤a)&&decide (a<(R:Int)))&&(decide (0≤b)&&decide (b<(W:Int)))
 |_,_=>false
def GC(R W:Nat):D→Bool
 | .tup [u,v]=>J_ R W u v
 |_=>false
theorem Kb{δ ε:DE}{ρ:a9}{i n:Int}(h:δ ρ=M.ret (.int i))(h2:ε ρ=M.ret (.int n)):
 wk (fun i j=>decide (i≤j)) (fun i j=>decide (i<j)) (dC (.int 0)) δ ε ρ=M.ret (.bl (decide (0≤i)&&decide (i<n))):=by
 simp only[wk,dC,h,h2,ak,gI]
 cases decide (0≤i)<;>rfl
theorem ux{bd:List Str}{W:Nat}(hg:Brd bd W){d:D}(h:Plain2 d):iU [brd bd,d]=M.ret (.bl (GC bd.length W d)):=by
 refine aU ?_
 have hρ:([brd bd,d].map (fun d=>some (Sl.fz d))++List.replicate (2 - [brd bd,d].length) none)=[fz (brd bd),fz d]:=rfl
 rw[hρ]
 have hv:dV 1 [fz (brd bd),fz d]=M.ret d:=rfl
 have no:isTup d=false→rk [fz (brd bd),fz d]=M.ret (.rt (.bl false)):=fun hs=>by
  refine dJ (fC ?_ (aH rfl))
  simp only[kX,cW,cJ,dA,aC,aN,dC,hv,ak,mS h.plain,hs,vG,Bool.not_false,if_true]
 cases d with
 |tup ds=>
  have hi:cW (cJ (dA gS (aC (dV 1) (aC (dC (.raw (.ty "tuple"))) aN)))) [fz (brd bd),fz (.tup ds)]=M.ret false:=by
   simp only[cW,cJ,dA,aC,aN,dC,hv,ak,mS h.plain,isTup,vG,Bool.not_true]
  have k:((ds.length:Int)==2)=(ds.length==2):=kh ds.length 2
  have hl:kX (cW (cJ (dA gS (aC (dV 1) (aC (dC (.raw (.ty "tuple"))) aN))))) (dn (d2 jB (dA bA (aC (dV 1) aN)) (dC (.int 2)))) [fz (brd bd),fz (.tup ds)]=M.ret (!(ds.length==2)):=by
   unfold kX
   rw[hi]
   simp only[dn,d2,dA,aC,aN,dC,hv,ak,Fl,ne_int,k,Bd,Bool.false_eq_true,if_false]
  match ds,h,hl with
  |[],h,hl=>exact dJ (fC hl (aH rfl))
  |[_],h,hl=>exact dJ (fC hl (aH rfl))
  |_::_::_::_,h,hl=>
   refine dJ (fC (hl.trans ?_) (aH rfl))
   simp
  |[u,v],h,hl=>
   refine aj (dR hl rfl) ?_
   have pu:Plain u:=h u (by simp)
   have pv:Plain v:=h v (by simp)
   have w1:ai 1 bw (aC (d2 bt (dV 1) (dC (.int 0))) aN) [fz (brd bd),fz (.tup [u,v])]=M.ret (.bl (gP u)):=rj pu
   have w2:ai 1 bw (aC (d2 bt (dV 1) (dC (.int 1))) aN) [fz (brd bd),fz (.tup [u,v])]=M.ret (.bl (gP v)):=rj pv
   have hw:kX (cW (cJ (ai 1 bw (aC (d2 bt (dV 1) (dC (.int 0))) aN)))) (cW (cJ (ai 1 bw (aC (d2 bt (dV 1) (dC (.int 1))) aN)))) [fz (brd bd),fz (.tup [u,v])]=M.ret (!(gP u&&gP v)):=by
    unfold kX cW cJ
    rw[w1,w2]
    simp only[ak,vG]
    cases gP u<;>cases gP v<;>rfl
   have bad:(gP u&&gP v)=false→aE (gB (kX (cW (cJ (ai 1 bw (aC (d2 bt (dV 1) (dC (.int 0))) aN)))) (cW (cJ (ai 1 bw (aC (d2 bt (dV 1) (dC (.int 1))) aN))))) (bq (dC (.bl false))) cY) (bq (eP (wk (fun i j=>decide (i≤j)) (fun i j=>decide (i<j)) (dC (.int 0)) (d2 bt (dV 1) (dC (.int 0))) (dA bA (aC (dV 0) aN))) (wk (fun i j=>decide (i≤j)) (fun i j=>decide (i<j)) (dC (.int 0)) (d2 bt (dV 1) (dC (.int 1))) (dA bA (aC (d2 bt (dV 0) (dC (.int 0))) aN))))) [fz (brd bd),fz (.tup [u,v])]=M.ret (.rt (.bl false)):=fun hz=>by
    rw[hz] at hw
    exact dJ (fC hw (aH rfl))
   match u,v,hw,bad with
   | .int a, .int b,hw,bad=>
     refine aj (dR hw rfl) (aH ?_)
     obtain⟨x0,r,e0⟩:∃x0 r,bd=x0::r:=by
      have:=hg.r1
      cases bd with
      |nil=>simp at this
      |cons x r=>exact⟨x,r,rfl⟩
     have hx:x0.length=W:=(hg.rows x0 (by rw[e0];simp)).len
     have l0:dA bA (aC (dV 0) aN) [fz (brd bd),fz (.tup [.int a, .int b])]=M.ret (.int (bd.length:Int)):=by
      show M.ret (D.int ((bd.map D.str).length:Int))=_
      rw[List.length_map]
     have l1:dA bA (aC (d2 bt (dV 0) (dC (.int 0))) aN) [fz (brd bd),fz (.tup [.int a, .int b])]=M.ret (.int (W:Int)):=by
      have i0:bt (brd bd) (.int 0)=M.ret (.str x0):=N0 (r:=r.map D.str) (by rw[e0];rfl)
      simp only[dA,aC,aN,d2,dC,dV,List.getElem?_cons_zero,ak,i0,len_str,hx]
     have c1:=Kb (δ:=d2 bt (dV 1) (dC (.int 0))) (i:=a) rfl l0
     have c2:=Kb (δ:=d2 bt (dV 1) (dC (.int 1))) (i:=b) rfl l1
     unfold eP
     rw[c1,ak]
     show (if (decide (0≤a)&&decide (a<(bd.length:Int)))=true then _ else _)=M.ret (D.bl ((decide (0≤a)&&decide (a<(bd.length:Int)))&&(decide (0≤b)&&decide (b<(W:Int)))))
     cases (decide (0≤a)&&decide (a<(bd.length:Int)))
     ·rfl
     ·rw[if_pos rfl,c2,Bool.true_and]
   | .non,_,_,bad=>exact bad rfl
   | .bl _,_,_,bad=>exact bad rfl
   | .str _,_,_,bad=>exact bad rfl
   | .tup _,_,_,bad=>exact bad rfl
   | .lst _,_,_,bad=>exact bad rfl
   | .raw _,_,_,_=>exact pu.elim
   | .exc _,_,_,_=>exact pu.elim
   | .scr _,_,_,_=>exact pu.elim
   | .int a, .non,_,bad=>exact bad rfl
   | .int a, .bl _,_,bad=>exact bad rfl
   | .int a, .str _,_,bad=>exact bad rfl
   | .int a, .tup _,_,bad=>exact bad rfl
   | .int a, .lst _,_,bad=>exact bad rfl
   | .int a, .raw _,_,_=>exact pv.elim
   | .int a, .exc _,_,_=>exact pv.elim
   | .int a, .scr _,_,_=>exact pv.elim
 |non=>exact no rfl
 |bl b=>exact no rfl
 |int b=>exact no rfl
 |str b=>exact no rfl
 |lst b=>exact no rfl
 |raw _=>exact h.elim
 |exc _=>exact h.elim
 |scr _=>exact h.elim
 |dct _ _=>exact h.elim
 |dci _ _=>exact h.elim
abbrev Cell:=Nat×Nat
def cD(c:Cell):D:= .tup [.int (c.1:Int), .int (c.2:Int)]
def On(R W:Nat)(c:Cell):Prop:=c.1<R∧c.2<W
instance {R W:Nat}{c:Cell}:Decidable (On R W c):=by unfold On;infer_instance
theorem BA{c:Cell}:Plain2 (cD c):=fun d hd=>by
 have:d= .int (c.1:Int)∨d= .int (c.2:Int):=by simpa[cD] using hd
 rcases this with rfl | rfl<;>trivial
theorem EK{R W:Nat}{c:Cell}(h:On R W c):GC R W (cD c)=true:=by
 show ((decide ((0:Int)≤(c.1:Int))&&decide ((c.1:Int)<(R:Int)))&&(decide ((0:Int)≤(c.2:Int))&&decide ((c.2:Int)<(W:Int))))=true
 obtain⟨h1,h2⟩:=h
 simp
 omega
theorem Brd.nc{bd:List Str}{W:Nat}(hg:Brd bd W){c:Cell}(h:On bd.length W c):cq [brd bd,cD c]=M.ret .non:=by
 refine y_ (ρ:=[fz (brd bd),fz (cD c)]) (dR (BL (wq (b:=true) ?_)) rfl)
 refine(ao (ds:=[brd bd,cD c]) rfl rfl).trans ?_
 rw[ux hg BA,EK h]
def Ways(w:Nat):Prop:=w=4∨w=8
theorem Ways.nw{w:Nat}(h:Ways w):br [.int (w:Int)]=M.ret .non:=by
 rcases h with rfl | rfl<;>rfl
def ch(x:Str)(j:Nat):Nat:=x.cps.toList.getD j 0
def at2(bd:List Str)(i j:Nat):Nat:=ch (bd.getD i ⟨#[]⟩) j
abbrev lt(bd:List Str)(c:Cell):Nat:=at2 bd c.1 c.2
def sg(n:Nat):D:= .str ⟨#[n]⟩
theorem zc{x:Str}{c:Nat}(h:c<x.length):mJ (.str x) (.int (c:Int))=M.ret (sg (ch x c)):=by
 have h':c<x.cps.toList.length:=by rw[Array.length_toList];exact h
 show (match L2.atI x.cps.toList (c:Int) with | some c=>M.ret (D.str ⟨#[c]⟩) | none=>M.stuck)=_
 rw[eM (List.getElem?_eq_getElem h')]
 unfold sg ch
 rw[List.getD_eq_getElem?_getD,List.getElem?_eq_getElem h']
 rfl
theorem getD_mem{bd:List Str}{i:Nat}(h:i<bd.length):bd.getD i ⟨#[]⟩∈bd:=by
 rw[List.getD_eq_getElem?_getD,List.getElem?_eq_getElem h]
 exact List.getElem_mem h
theorem Iw{bd:List Str}{i:Nat}(h:i<bd.length):bt (brd bd) (.int (i:Int))=M.ret (.str (bd.getD i ⟨#[]⟩)):=by
 show (match L2.atI (bd.map D.str) (i:Int) with | some d=>M.ret d | none=>M.stuck)=_
 rw[eM (x:= .str (bd.getD i ⟨#[]⟩)) ?_]
 rw[List.getElem?_map,List.getElem?_eq_getElem h,List.getD_eq_getElem?_getD,List.getElem?_eq_getElem h]
 rfl
theorem fH{bd:List Str}{W:Nat}(hg:Brd bd W){c:Cell}(h:On bd.length W c):ck [brd bd,cD c]=M.ret (sg (lt bd c)):=by
 refine aU (aH ?_)
 refine(bo (x:= .str (bd.getD c.1 ⟨#[]⟩)) (y:= .int (c.2:Int)) ((bo (x:=brd bd) (y:= .int (c.1:Int)) rfl rfl).trans (Iw h.1)) rfl).trans ?_
 exact zc (by rw[(hg.rows _ (getD_mem h.1)).len];exact h.2)
theorem GK(a b:Nat):nE (sg a) (sg b)=M.ret (.bl (decide (a=b))):=by
 show M.ret (D.bl (decide ((⟨#[a]⟩:Str)=⟨#[b]⟩)))=_
 congr 2
 by_cases h:a=b
 ·subst h;simp
 ·have:¬((⟨#[a]⟩:Str)=⟨#[b]⟩):=fun z=>by
   injection z with z
   exact h (by simpa using z)
  rw[decide_eq_false h,decide_eq_false this]
def fe(a b:Nat):Nat:=max a b - min a b
def i4(w:Nat)(a b:Cell):Bool:=if w=4 then decide (fe a.1 b.1+fe a.2 b.2=1) else decide (max (fe a.1 b.1) (fe a.2 b.2)=1)
theorem ya(a b:Nat):Bs [.int ((a:Int) - (b:Int))]=M.ret (.int (fe a b:Int)):=by
 show M.ret (D.int _)=_
 congr 2
 unfold fe
 omega
theorem rp{w:Nat}(hw:Ways w)(a b:Cell):df [cD a,cD b, .int (w:Int)]=M.ret (.bl (i4 w a b)):=by
 refine aU ?_
 refine aj (ρ':=[fz (cD a),fz (cD b),fz (.int (w:Int)),fz (.int (fe a.1 b.1:Int)),none]) ((aR (d:= .int (fe a.1 b.1:Int)) (ya a.1 b.1)).trans rfl) ?_
 refine aj (ρ':=[fz (cD a),fz (cD b),fz (.int (w:Int)),fz (.int (fe a.1 b.1:Int)),fz (.int (fe a.2 b.2:Int))]) ((aR (d:= .int (fe a.2 b.2:Int)) (ya a.2 b.2)).trans rfl) ?_
 rcases hw with rfl | rfl
 ·refine dJ (fC (gT rfl) (aH ?_))
  show M.ret (D.bl (((fe a.1 b.1:Int)+(fe a.2 b.2:Int))==1))=_
  unfold i4
  rw[if_pos rfl]
  congr 2
  have:((fe a.1 b.1:Int)+(fe a.2 b.2:Int))=((fe a.1 b.1+fe a.2 b.2:Nat):Int):=by omega
  rw[this]
  have e:=kh (fe a.1 b.1+fe a.2 b.2) 1
  exact e.trans rfl
 ·refine aj (dR (gT rfl) rfl) (aH ?_)
  show M.ret (D.bl ((if (fe a.1 b.1:Int)<(fe a.2 b.2:Int) then(fe a.2 b.2:Int) else(fe a.1 b.1:Int))==1))=_
  have hn:i4 8 a b=decide (max (fe a.1 b.1) (fe a.2 b.2)=1):=rfl
  rw[hn]
  congr 2
  have:(if (fe a.1 b.1:Int)<(fe a.2 b.2:Int) then(fe a.2 b.2:Int) else(fe a.1 b.1:Int))=((max (fe a.1 b.1) (fe a.2 b.2):Nat):Int):=by split<;>omega
  rw[this]
  have e:=kh (max (fe a.1 b.1) (fe a.2 b.2)) 1
  exact e.trans rfl
theorem CW(w:Nat)(a b:Cell):i4 w a b=i4 w b a:=by
 have e:∀x y:Nat,fe x y=fe y x:=fun x y=>by unfold fe;omega
 unfold i4
 rw[e a.1,e a.2]
theorem Lm{a b:Cell}(h:i4 4 a b=true):i4 8 a b=true:=by
 unfold i4 at h⊢
 rw[if_pos rfl] at h
 rw[if_neg (by decide)]
 have h:=of_decide_eq_true h
 exact decide_eq_true (by omega)
theorem b_{put:D→a9→Option a9}{body:DS}{d:D}{ds:List D}{ρ ρ1 ρ2:a9}(h1:put d ρ=some ρ1)(h2:body ρ1=M.ret (.nx ρ2)):forL put body (d::ds) ρ=forL put body ds ρ2:=by
 show (match put d ρ with | none=>M.stuck | some ρ1=>body ρ1>>=fun o=>match o with | .nx ρ2=>forL put body ds ρ2 | .rt v=>M.ret (.rt v))=_
 rw[h1]
 show (body ρ1>>=fun o=>match o with | .nx ρ2=>forL put body ds ρ2 | .rt v=>M.ret (.rt v))=_
 rw[h2]
 rfl
section
variable{α σ:Type}{put:D→a9→Option a9}{body:DS}
theorem k0(enc:α→D)(mk:σ→a9)(step:σ→α→σ)(I:σ→Prop):∀(xs:List α) (s:σ),I s→(∀s,I s→∀x∈xs,I (step s x)∧∃ρ1,put (enc x) (mk s)=some ρ1∧body ρ1=M.ret (.nx (mk (step s x))))→
 I (xs.foldl step s)∧forL put body (xs.map enc) (mk s)=M.ret (.nx (mk (xs.foldl step s)))
 |[],s,h,_=>⟨h,rfl⟩
 |x::xs,s,h,st=>by
  obtain⟨h2,ρ1,e1,e2⟩:=st s h x (List.mem_cons_self ..)
  obtain⟨h3,e3⟩:=k0 enc mk step I xs (step s x) h2 fun s hs y hy=>st s hs y (List.mem_cons_of_mem _ hy)
  exact⟨h3,(b_ e1 e2).trans e3⟩
theorem iW(enc:α→D)(ρ:a9):∀(xs:List α),(∀x∈xs,∃ρ1,put (enc x) ρ=some ρ1∧body ρ1=M.ret (.nx ρ))→forL put body (xs.map enc) ρ=M.ret (.nx ρ)
 |[],_=>rfl
 |x::xs,st=>by
  obtain⟨ρ1,e1,e2⟩:=st x (List.mem_cons_self ..)
  exact(b_ e1 e2).trans (iW enc ρ xs fun y hy=>st y (List.mem_cons_of_mem _ hy))
theorem gY(enc:α→D)(mk:List D→a9)(g:α→List D){B:Nat}:∀(xs:List α) (acc:List D),(acc++xs.flatMap g).length≤B→(∀x∈xs,∀acc,(acc++g x).length≤B→∃ρ1,put (enc x) (mk acc)=some ρ1∧body ρ1=M.ret (.nx (mk (acc++g x))))→
 forL put body (xs.map enc) (mk acc)=M.ret (.nx (mk (acc++xs.flatMap g)))
 |[],acc,_,_=>by simp;rfl
 |x::xs,acc,hB,st=>by
  have OW:((acc++g x)++xs.flatMap g).length≤B:=by simpa[List.flatMap_cons,List.append_assoc] using hB
  obtain⟨ρ1,e1,e2⟩:=st x (List.mem_cons_self ..) acc (Nat.le_trans (by simp only[List.length_append];omega) OW)
  have e3:=gY enc mk g xs (acc++g x) OW fun y hy=>st y (List.mem_cons_of_mem _ hy)
  rw[List.map_cons,b_ e1 e2,e3,List.flatMap_cons,List.append_assoc]
end
theorem e9{put:D→a9→Option a9}{δi:DA}{b:DS}{ρ:a9}{ds:List D}{m:M Out}(h:δi ρ=M.ret ds)(h2:forL put b ds ρ=m):dH put δi b ρ=m:=by
 unfold dH
 rw[h]
 exact h2
theorem eF{τ:DS}{ρ:a9}{o:Out}(h:τ ρ=M.ret o):(fun ρ=>noex (τ ρ)) ρ=M.ret o:=by
 show noex (τ ρ)=_
 rw[h]
 rfl
theorem vn(lo n:Nat):f9 (lo:Int) n=(List.range' lo n).map fun(k:Nat)=>D.int (k:Int):=by
 unfold f9
 rw[List.range_eq_range']
 have:∀(n a:Nat),(List.range' a n).map (fun (i:Nat)=>D.int ((lo:Int)+(i:Int)))=(List.range' (lo+a) n).map fun(k:Nat)=>D.int (k:Int):=by
  intro n
  induction n with
  |zero=>intro a;rfl
  |succ n ih=>
   intro a
   rw[List.range'_succ,List.range'_succ,List.map_cons,List.map_cons,ih (a+1)]
   rfl
 exact this n 0
theorem Gb{δ:DE}{ρ:a9}{n:Nat}(h:δ ρ=M.ret (.int (n:Int)))(hn:n≤4096):(aC δ aN ρ>>=ix)=M.ret ((List.range n).map fun(k:Nat)=>D.int (k:Int)):=by
 rw[aS h rfl,ak,lL hn,show f9 0 n=f9 ((0:Nat):Int) n from rfl,vn,List.range_eq_range']
theorem LQ{δ ε:DE}{ρ:a9}{i j:Nat}(h:δ ρ=M.ret (.int (i:Int)))(h2:ε ρ=M.ret (.int (j:Int)))(hi:i≤4096)(hj:j≤4096):(aC δ (aC ε aN) ρ>>=q9)=M.ret ((List.range' i (j - i)).map fun(k:Nat)=>D.int (k:Int)):=by
 rw[aS h (aS h2 rfl),ak]
 show (if (-4096≤(i:Int)∧(i:Int)≤4096)∧(-4096≤(j:Int)∧(j:Int)≤4096) then M.ret (f9 (i:Int) ((j:Int) - (i:Int)).toNat) else M.stuck)=_
 rw[if_pos ⟨⟨by omega,by omega⟩,by omega,by omega⟩,show ((j:Int) - (i:Int)).toNat=j - i by omega,vn]
def cy(W r:Nat):List Cell:=(List.range W).map fun k=>(r,k)
def ax(R W:Nat):List Cell:=(List.range R).flatMap (cy W)
theorem aM{R W:Nat}{c:Cell}:c∈ax R W↔On R W c:=by
 unfold ax cy On
 simp only[List.mem_flatMap,List.mem_range,List.mem_map]
 constructor
 ·rintro⟨r,hr,k,hk,rfl⟩;exact⟨hr,hk⟩
 ·rintro⟨h1,h2⟩;exact⟨c.1,h1,c.2,h2,rfl⟩
theorem dg(R W:Nat):(ax R W).length=R*W:=by
 unfold ax
 have:∀l:List Nat,(l.flatMap (cy W)).length=l.length*W:=by
  intro l
  induction l with
  |nil=>simp
  |cons a l ih=>rw[List.flatMap_cons,List.length_append,ih,List.length_cons,Nat.succ_mul];simp[cy];omega
 rw[this,List.length_range]
theorem fN{bd:List Str}{W:Nat}(hg:Brd bd W)(r:Nat):aV [brd bd, .int (r:Int)]=M.ret (.lst ((cy W r).map cD)):=by
 have:=hg.w8
 refine aU (aH (aX (Gb (n:=W) (hg.len0 rfl) (by omega)) ?_ (by simp[cy,cN];omega)))
 rw[show (cy W r).map cD=((List.range W).map fun(k:Nat)=>D.int (k:Int)).map (fun e=> .tup [.int (r:Int),e]) by simp[cy,List.map_map];intro a _;rfl]
 exact fP (g:=fun e=> .tup [.int (r:Int),e]) _ fun e _=>rfl
theorem jj{bd:List Str}{W:Nat}(hg:Brd bd W):di [brd bd]=M.ret (.lst ((ax bd.length W).map cD)):=by
 have h8:=hg.r8
 have w8:=hg.w8
 have hm:bd.length*W≤64:=Nat.mul_le_mul h8 w8
 have Mf:(List.range bd.length).flatMap (fun r=>(cy W r).map cD)=(ax bd.length W).map cD:=by
  unfold ax;rw[List.map_flatMap]
 have e:=gY (put:=putN 2) (body:=cH [2] (DR 1 (ai 2 aV (aC (dV 0) (aC (dV 2) aN))))) (fun (k:Nat)=>D.int (k:Int)) (fun acc=>[fz (brd bd),some (.ow (.lst acc)),none]) (fun r=>(cy W r).map cD) (B:=64) (List.range bd.length) []
  (by rw[List.nil_append,Mf,List.length_map,dg];exact hm) fun r hr acc hB=>by
   refine⟨[fz (brd bd),some (.ow (.lst acc)),fz (.int (r:Int))],rfl,?_⟩
   refine(bD (ρ':=[fz (brd bd),some (.ow (.lst (acc++(cy W r).map cD))),fz (.int (r:Int))]) ?_).trans rfl
   show (aV [brd bd, .int (r:Int)]>>=fun d=>lstM d>>=fun es=>if acc.length+es.length≤lim then M.ret (Out.nx (List.set [fz (brd bd),some (.ow (.lst acc)),fz (.int (r:Int))] 1 (some (.ow (.lst (acc++es)))))) else M.stuck)=_
   rw[fN hg,ak]
   show (if acc.length+((cy W r).map cD).length≤lim then M.ret (Out.nx [fz (brd bd),some (.ow (.lst (acc++(cy W r).map cD))),fz (.int (r:Int))]) else M.stuck)=_
   rw[if_pos (by rw[List.length_append] at hB;rw[cN];omega)]
 rw[List.nil_append,Mf] at e
 refine aU (aj (ρ':=[fz (brd bd),some (.ow (.lst [])),none]) rfl (aj (ρ':=[fz (brd bd),some (.ow (.lst ((ax bd.length W).map cD))),none]) (eF (e9 (Gb (n:=bd.length) (IH rfl) (by omega)) e)) ?_))
 rfl
def fv(R W w:Nat)(c:Cell):List Cell:=
 (List.range' (c.1 - 1) (min (c.1+2) R - (c.1 - 1))).flatMap fun r=>((List.range' (c.2 - 1) (min (c.2+2) W - (c.2 - 1))).map fun k=>(r,k)).filter (i4 w c)
theorem lr{R W w:Nat}(hw:Ways w){c x:Cell}:x∈fv R W w c↔On R W x∧i4 w c x=true:=by
 unfold fv On
 simp only[List.mem_flatMap,List.mem_filter,List.mem_map,List.mem_range'_1]
 constructor
 ·rintro⟨r,⟨h1,h2⟩,⟨k,⟨h3,h4⟩,rfl⟩,h5⟩
  refine⟨⟨?_,?_⟩,h5⟩
  ·show r<R;omega
  ·show k<W;omega
 ·rintro⟨⟨h1,h2⟩,h5⟩
  have h6:fe c.1 x.1≤1∧fe c.2 x.2≤1:=by
   unfold i4 at h5
   rcases hw with rfl | rfl
   ·rw[if_pos rfl] at h5;have:=of_decide_eq_true h5;omega
   ·rw[if_neg (by decide)] at h5;have:=of_decide_eq_true h5;omega
  unfold fe at h6
  exact⟨x.1,⟨by omega,by omega⟩,⟨x.2,⟨by omega,by omega⟩,rfl⟩,h5⟩
theorem qz(R W w:Nat)(c:Cell):(fv R W w c).length≤9:=by
 unfold fv
 rw[List.length_flatMap]
 have h:∀r,(((List.range' (c.2 - 1) (min (c.2+2) W - (c.2 - 1))).map fun k=>(r,k)).filter (i4 w c)).length≤3:=fun r=>by
  refine Nat.le_trans (List.length_filter_le ..) ?_
  rw[List.length_map,List.length_range']
  omega
 have:∀(l:List Nat),(l.map fun r=>(((List.range' (c.2 - 1) (min (c.2+2) W - (c.2 - 1))).map fun k=>(r,k)).filter (i4 w c)).length).sum≤3*l.length:=by
  intro l
  induction l with
  |nil=>simp
  |cons a l ih=>rw[List.map_cons,List.sum_cons,List.length_cons];have:=h a;omega
 refine Nat.le_trans (this _) ?_
 rw[List.length_range']
 omega
abbrev nc(b c w:D)(acc:List D)(x4 x5:Option Sl):a9:=[fz b,fz c,fz w,some (.ow (.lst acc)),x4,x5]
theorem h9{bd:List Str}{W w:Nat}(hg:Brd bd W)(hw:Ways w){c:Cell}(hc:On bd.length W c):bS [brd bd,cD c, .int (w:Int)]=M.ret (.lst ((fv bd.length W w c).map cD)):=by
 have h8:=hg.r8
 have w8:=hg.w8
 obtain⟨c1,c2⟩:=hc
 have KO:∀n:Nat,wW [.int ((n:Int) - 1), .int 0]=M.ret (.int ((n - 1:Nat):Int)):=fun n=>by
  show M.ret (D.int (if (0:Int)>(n:Int) - 1 then 0 else(n:Int) - 1))=_
  congr 2
  split<;>omega
 have KP:∀n m:Nat,Af [.int ((n:Int)+2), .int (m:Int)]=M.ret (.int ((min (n+2) m:Nat):Int)):=fun n m=>by
  show M.ret (D.int (if (m:Int)<(n:Int)+2 then(m:Int) else(n:Int)+2))=_
  congr 2
  split<;>omega
 have inner:∀(r:Nat) (acc:List D),acc.length≤16→forL (putN 5) (cH [5] (gB (cJ (ai 3 df (aC (dV 1) (aC (dA dm (aC (dV 4) (aC (dV 5) aN))) (aC (dV 2) aN))))) (mN 3 (dA dm (aC (dV 4) (aC (dV 5) aN)))) cY))
  ((List.range' (c.2 - 1) (min (c.2+2) W - (c.2 - 1))).map fun(k:Nat)=>D.int (k:Int)) (nc (brd bd) (cD c) (.int (w:Int)) acc (fz (.int (r:Int))) none)=
  M.ret (.nx (nc (brd bd) (cD c) (.int (w:Int)) (acc++(List.range' (c.2 - 1) (min (c.2+2) W - (c.2 - 1))).flatMap fun k=>if i4 w c (r,k) then [cD (r,k)] else []) (fz (.int (r:Int))) none)):=fun r acc pM=>by
  refine gY (fun (k:Nat)=>D.int (k:Int)) (fun acc=>nc (brd bd) (cD c) (.int (w:Int)) acc (fz (.int (r:Int))) none) (fun k=>if i4 w c (r,k) then [cD (r,k)] else []) (B:=64) _ acc ?_ fun k hk acc hB=>?_
  ·rw[List.length_append,List.length_flatMap]
   have:∀l:List Nat,(l.map fun k=>(if i4 w c (r,k) then [cD (r,k)] else []).length).sum≤l.length:=by
    intro l
    induction l with
    |nil=>simp
    |cons a l ih=>rw[List.map_cons,List.sum_cons,List.length_cons];split<;>simp<;>omega
   have h2:=this (List.range' (c.2 - 1) (min (c.2+2) W - (c.2 - 1)))
   rw[List.length_range'] at h2
   omega
  ·refine⟨nc (brd bd) (cD c) (.int (w:Int)) acc (fz (.int (r:Int))) (fz (.int (k:Int))),rfl,?_⟩
   have ht:cJ (ai 3 df (aC (dV 1) (aC (dA dm (aC (dV 4) (aC (dV 5) aN))) (aC (dV 2) aN)))) (nc (brd bd) (cD c) (.int (w:Int)) acc (fz (.int (r:Int))) (fz (.int (k:Int))))=M.ret (i4 w c (r,k)):=
    wq ((ao (ds:=[cD c,cD (r,k), .int (w:Int)]) rfl rfl).trans (rp hw c (r,k)))
   cases hn:i4 w c (r,k) with
   |true=>
    rw[hn] at ht
    rw[hn,if_pos rfl,List.length_append] at hB
    refine(bD (ρ':=nc (brd bd) (cD c) (.int (w:Int)) (acc++[cD (r,k)]) (fz (.int (r:Int))) (fz (.int (k:Int)))) (fC ht ?_)).trans rfl
    show (if acc.length<lim then M.ret (Out.nx (nc (brd bd) (cD c) (.int (w:Int)) (acc++[cD (r,k)]) (fz (.int (r:Int))) (fz (.int (k:Int))))) else M.stuck)=_
    rw[if_pos (by rw[cN];simp at hB;omega)]
   |false=>
    rw[hn] at ht
    refine(bD (ρ':=nc (brd bd) (cD c) (.int (w:Int)) acc (fz (.int (r:Int))) (fz (.int (k:Int)))) (dR ht rfl)).trans ?_
    simp
    rfl
 have flt:∀r,((List.range' (c.2 - 1) (min (c.2+2) W - (c.2 - 1))).flatMap fun k=>if i4 w c (r,k) then [cD (r,k)] else [])=(((List.range' (c.2 - 1) (min (c.2+2) W - (c.2 - 1))).map fun k=>(r,k)).filter (i4 w c)).map cD:=fun r=>by
  generalize List.range' (c.2 - 1) (min (c.2+2) W - (c.2 - 1))=l
  induction l with
  |nil=>rfl
  |cons a l ih=>
   rw[List.flatMap_cons,ih,List.map_cons,List.filter_cons]
   cases i4 w c (r,a)<;>rfl
 have tot:(List.range' (c.1 - 1) (min (c.1+2) bd.length - (c.1 - 1))).flatMap (fun r=>(((List.range' (c.2 - 1) (min (c.2+2) W - (c.2 - 1))).map fun k=>(r,k)).filter (i4 w c)).map cD)=(fv bd.length W w c).map cD:=by
  unfold fv;rw[List.map_flatMap]
 have outer:=gY (put:=putN 4) (body:=cH [4,5] (dH (putN 5) (fun ρ=>(aC (dA wW (aC (d2 wB (d2 bt (dV 1) (dC (.int 1))) (dC (.int 1))) (aC (dC (.int 0)) aN))) (aC (dA Af (aC (d2 dY (d2 bt (dV 1) (dC (.int 1))) (dC (.int 2))) (aC (dA bA (aC (d2 bt (dV 0) (dC (.int 0))) aN)) aN))) aN)) ρ>>=q9) (cH [5] (gB (cJ (ai 3 df (aC (dV 1) (aC (dA dm (aC (dV 4) (aC (dV 5) aN))) (aC (dV 2) aN))))) (mN 3 (dA dm (aC (dV 4) (aC (dV 5) aN)))) cY))))
  (fun (k:Nat)=>D.int (k:Int)) (fun acc=>nc (brd bd) (cD c) (.int (w:Int)) acc none none) (fun r=>(((List.range' (c.2 - 1) (min (c.2+2) W - (c.2 - 1))).map fun k=>(r,k)).filter (i4 w c)).map cD) (B:=16) (List.range' (c.1 - 1) (min (c.1+2) bd.length - (c.1 - 1))) []
  (by rw[List.nil_append,tot,List.length_map];have:=qz bd.length W w c;omega) fun r hr acc hB=>by
   refine⟨nc (brd bd) (cD c) (.int (w:Int)) acc (fz (.int (r:Int))) none,rfl,?_⟩
   have e:=inner r acc (by rw[List.length_append] at hB;omega)
   rw[flt r] at e
   refine(bD (e9 (LQ (i:=c.2 - 1) (j:=min (c.2+2) W) ?_ ?_ (by omega) (by omega)) e)).trans rfl
   ·exact(cC (xs:=[.int ((c.2:Int) - 1), .int 0]) rfl).trans (KO c.2)
   ·refine(cC (xs:=[.int ((c.2:Int)+2), .int (W:Int)]) ?_).trans (KP c.2 W)
    exact aS (show d2 dY (d2 bt (dV 1) (dC (.int 1))) (dC (.int 2)) (nc (brd bd) (cD c) (.int (w:Int)) acc (fz (.int (r:Int))) none)=M.ret (.int ((c.2:Int)+2)) from rfl) (aS (hg.len0 rfl) rfl)
 rw[List.nil_append,tot] at outer
 refine aU (aj (ρ':=nc (brd bd) (cD c) (.int (w:Int)) [] none none) rfl (aj (ρ':=nc (brd bd) (cD c) (.int (w:Int)) ((fv bd.length W w c).map cD) none none) (eF (e9 (LQ (i:=c.1 - 1) (j:=min (c.1+2) bd.length) ?_ ?_ (by omega) (by omega)) outer)) ?_))
 ·exact(cC (xs:=[.int ((c.1:Int) - 1), .int 0]) rfl).trans (KO c.1)
 ·refine(cC (xs:=[.int ((c.1:Int)+2), .int (bd.length:Int)]) ?_).trans (KP c.1 bd.length)
  exact aS (show d2 dY (d2 bt (dV 1) (dC (.int 0))) (dC (.int 2)) (nc (brd bd) (cD c) (.int (w:Int)) [] none none)=M.ret (.int ((c.1:Int)+2)) from rfl) (aS (IH rfl) rfl)
 ·rfl
def aO(bd:List Str)(W w:Nat)(c:Cell):List Cell:=(fv bd.length W w c).filter fun x=>decide (lt bd x=lt bd c)
theorem cb{bd:List Str}{W w:Nat}(hw:Ways w){c x:Cell}:x∈aO bd W w c↔On bd.length W x∧i4 w c x=true∧lt bd x=lt bd c:=by
 unfold aO
 rw[List.mem_filter,lr hw,decide_eq_true_eq,and_assoc]
theorem qy(bd:List Str)(W w:Nat)(c:Cell):(aO bd W w c).length≤9:=Nat.le_trans (List.length_filter_le ..) (qz ..)
theorem iS{α:Type}{f:D→M (Option D)}(enc:α→D)(p:α→Bool):∀(xs:List α),(∀x∈xs,f (enc x)=M.ret (if p x then some (enc x) else none))→cP f (xs.map enc)=M.ret ((xs.filter p).map enc)
 |[],_=>rfl
 |x::xs,h=>by
  rw[List.map_cons,cQ,h x (List.mem_cons_self ..),ak,iS enc p xs fun y hy=>h y (List.mem_cons_of_mem _ hy),List.filter_cons]
  cases p x<;>rfl
theorem nY{bd:List Str}{W w:Nat}(hg:Brd bd W)(hw:Ways w){c:Cell}(hc:On bd.length W c):cG [brd bd,cD c, .int (w:Int)]=M.ret (.lst ((aO bd W w c).map cD)):=by
 refine aU (aj (ρ':=[fz (brd bd),fz (cD c),fz (.int (w:Int)),fz (sg (lt bd c))]) ((aR (d:=sg (lt bd c)) ((ao (ds:=[brd bd,cD c]) rfl rfl).trans (fH hg hc))).trans rfl) (aH ?_))
 refine aX (ds:=(fv bd.length W w c).map cD) ?_ (iS cD _ _ fun x hx=>?_) (by rw[List.length_map,cN];exact Nat.le_trans (qy bd W w c) (by decide))
 ·show (ai 3 bS _ _>>=lstM)=_
  have e:ai 3 bS (aC (dV 0) (aC (dV 1) (aC (dV 2) aN))) [fz (brd bd),fz (cD c),fz (.int (w:Int)),fz (sg (lt bd c))]=M.ret (.lst ((fv bd.length W w c).map cD)):=h9 hg hw hc
  rw[e]
  rfl
 ·have Mo:=(lr hw).mp hx
  rw[rK]
  have e:dn (d2 nE (ai 2 ck (aC (dV 1) (aC (dV 0) aN))) (dV 4)) (fz (cD x)::[fz (brd bd),fz (cD c),fz (.int (w:Int)),fz (sg (lt bd c))])=M.ret (decide (lt bd x=lt bd c)):=by
   refine gT ?_
   exact(bo (x:=sg (lt bd x)) (y:=sg (lt bd c)) ((ao (ds:=[brd bd,cD x]) rfl rfl).trans (fH hg Mo.1)) rfl).trans (GK _ _)
  rw[e,ak]
  cases decide (lt bd x=lt bd c)<;>rfl
end K1
namespace K1
section
variable{α:Type}[DecidableEq α]
structure Bk (α:Type) where
 ks:List α
 ps:List (Option α)
 fu:List α
def d_(c:α)(s:Bk α)(x:α):Bk α:=if x∈s.ks then s else⟨s.ks++[x],s.ps++[some c],s.fu++[x]⟩
variable(nb:α→List α)
def lV(s:Bk α)(c:α):Bk α:=(nb c).foldl (d_ c) s
def cK(s:Bk α)(ring:List α):Bk α:=ring.foldl (lV nb) s
def Rb(a:α):Nat→α→Prop
 |0,x=>x=a
 |k+1,x=>Rb a k x∨∃y,Rb a k y∧x∈nb y
variable{nb}{a:α}
theorem Rb.mono{i j:Nat}{x:α}(h:i≤j)(r:Rb nb a i x):Rb nb a j x:=by
 induction h with
 |refl=>exact r
 |step _ ih=>exact .inl ih
structure Grown (P:α→α→Prop) (s t:Bk α):Prop where
 ex:∃fs:List (α×α),t.ks=s.ks++fs.map (·.1)∧t.ps=s.ps++fs.map (fun p=>some p.2)∧t.fu=s.fu++fs.map (·.1)∧(∀p∈fs,P p.2 p.1)
 nd:s.ks.Nodup→t.ks.Nodup
theorem Grown.refl{P:α→α→Prop}(s:Bk α):Grown P s s:=⟨⟨[],by simp,by simp,by simp,fun _ h=>by cases h⟩,id⟩
theorem Grown.trans{P:α→α→Prop}{s t u:Bk α}(h1:Grown P s t)(h2:Grown P t u):Grown P s u:=by
 obtain⟨fs,a1,a2,a3,a4⟩:=h1.ex
 obtain⟨gs,b1,b2,b3,b4⟩:=h2.ex
 refine⟨⟨fs++gs,by rw[b1,a1];simp,by rw[b2,a2];simp,by rw[b3,a3];simp,fun p hp=>?_⟩,fun h=>h2.nd (h1.nd h)⟩
 rcases List.mem_append.mp hp with h | h
 ·exact a4 p h
 ·exact b4 p h
theorem tZ{P:α→α→Prop}{c x:α}(s:Bk α)(h:P c x):Grown P s (d_ c s x):=by
 unfold d_
 split
 ·exact Grown.refl s
 ·rename_i hx
  refine⟨⟨[(x,c)],rfl,rfl,rfl,fun p hp=>?_⟩,fun hn=>?_⟩
  ·have:p=(x,c):=by simpa using hp
   subst this;exact h
  ·refine List.nodup_append.mpr ⟨hn,by simp,fun y hy z hz e=>?_⟩
   have hz:z=x:=by simpa using hz
   rw[e,hz] at hy
   exact hx hy
theorem zq{c x y:α}(s:Bk α):y∈(d_ c s x).ks↔y∈s.ks∨y=x:=by
 unfold d_
 split
 ·rename_i hx
  exact⟨.inl,fun h=>h.elim id fun e=>by rw[e];exact hx⟩
 ·simp
theorem foldStep{P:α→α→Prop}{c:α}:∀(l:List α) (s:Bk α),(∀x∈l,P c x)→Grown P s (l.foldl (d_ c) s)∧∀y,y∈(l.foldl (d_ c) s).ks↔y∈s.ks∨y∈l
 |[],s,_=>⟨Grown.refl s,fun y=>by simp⟩
 |x::l,s,h=>by
  obtain⟨h1,h2⟩:=foldStep l (d_ c s x) fun y hy=>h y (List.mem_cons_of_mem _ hy)
  refine⟨(tZ s (h x (List.mem_cons_self ..))).trans h1,fun y=>?_⟩
  rw[List.foldl_cons,h2 y,zq]
  simp[or_assoc]
theorem ui{P:α→α→Prop}:∀(l:List α) (s:Bk α),(∀c∈l,∀x∈nb c,P c x)→Grown P s (cK nb s l)∧∀y,y∈(cK nb s l).ks↔y∈s.ks∨∃c∈l,y∈nb c
 |[],s,_=>⟨Grown.refl s,fun y=>by simp[cK]⟩
 |c::l,s,h=>by
  obtain⟨g1,m1⟩:=foldStep (P:=P) (c:=c) (nb c) s (h c (List.mem_cons_self ..))
  obtain⟨g2,m2⟩:=ui l (lV nb s c) fun c' hc=>h c' (List.mem_cons_of_mem _ hc)
  refine⟨g1.trans g2,fun y=>?_⟩
  show y∈(cK nb (lV nb s c) l).ks↔_
  rw[m2 y]
  show (y∈((nb c).foldl (d_ c) s).ks∨_)↔_
  rw[m1 y]
  simp[or_assoc]
structure Rng (nb:α→List α) (a:α) (k:Nat) (ks:List α) (ps:List (Option α)) (ring:List α):Prop where
 len:ks.length=ps.length
 nd:ks.Nodup
 mem:∀x,x∈ks↔Rb nb a k x
 rg:∀x,x∈ring↔Rb nb a k x∧∀j,Rb nb a j x→k≤j
 par:∀x p,(x,some p)∈ks.zip ps→x∈nb p∧p∈ks∧∀j,Rb nb a j x→∃i,j=i+1∧Rb nb a i p
 non:∀x,(x,none)∈ks.zip ps→x=a
 sz:k≤ks.length∧(ring≠[]→k+1≤ks.length)
theorem Rng.zero(nb:α→List α)(a:α):Rng nb a 0 [a] [none] [a] where
 len:=rfl
 nd:=by simp
 mem:=fun x=>by simp[Rb]
 rg:=fun x=>by simp[Rb]
 par:=fun x p h=>by simp at h
 non:=fun x h=>by simpa using h
 sz:=⟨by simp,fun _=>by simp⟩
theorem Rng.next{k:Nat}{ks:List α}{ps:List (Option α)}{ring:List α}(h:Rng nb a k ks ps ring)(hr:ring≠[]):Rng nb a (k+1) (cK nb ⟨ks,ps,[]⟩ ring).ks (cK nb ⟨ks,ps,[]⟩ ring).ps (cK nb ⟨ks,ps,[]⟩ ring).fu:=by
 obtain⟨g,m⟩:=ui (nb:=nb) (P:=fun c x=>c∈ring∧x∈nb c) ring ⟨ks,ps,[]⟩ fun c hc x hx=>⟨hc,hx⟩
 obtain⟨fs,e1,e2,e3,e4⟩:=g.ex
 have Bj:=g.nd h.nd
 have hm:∀x,x∈(cK nb ⟨ks,ps,[]⟩ ring).ks↔Rb nb a (k+1) x:=fun x=>by
  rw[m x]
  show (x∈ks∨_)↔(Rb nb a k x∨_)
  constructor
  ·rintro(q | ⟨c,hc,hx⟩)
   ·exact .inl ((h.mem x).mp q)
   ·exact .inr ⟨c,((h.rg c).mp hc).1,hx⟩
  ·rintro(q | ⟨y,hy,hx⟩)
   ·exact .inl ((h.mem x).mpr q)
   ·by_cases hk:∀j,Rb nb a j y→k≤j
    ·exact .inr ⟨y,(h.rg y).mpr ⟨hy,hk⟩,hx⟩
    ·refine .inl ((h.mem x).mpr ?_)
     obtain⟨j,hj⟩:=Classical.not_forall.mp hk
     obtain⟨Nu,QN⟩:=Classical.not_imp.mp hj
     exact Rb.mono (i:=j+1) (by omega) (.inr ⟨y,Nu,hx⟩)
 have Bf:(cK nb ⟨ks,ps,[]⟩ ring).ks=ks++fs.map (·.1):=e1
 have JM:(cK nb ⟨ks,ps,[]⟩ ring).ps=ps++fs.map (fun p=>some p.2):=e2
 have L9:(cK nb ⟨ks,ps,[]⟩ ring).fu=fs.map (·.1):=e3
 have new:∀x,x∈fs.map (·.1)→¬Rb nb a k x:=fun x hx hk=>by
  rw[Bf] at Bj
  exact(List.nodup_append.mp Bj).2.2 x ((h.mem x).mpr hk) x hx rfl
 have Lg:∀x,¬Rb nb a k x→∀j,Rb nb a j x→k+1≤j:=fun x hx j hj=>by
  by_cases QO:k+1≤j
  ·exact QO
  ·exact absurd (Rb.mono (by omega) hj) hx
 have K7:(cK nb ⟨ks,ps,[]⟩ ring).ks.zip (cK nb ⟨ks,ps,[]⟩ ring).ps=ks.zip ps++fs.map fun p=>(p.1,some p.2):=by
  rw[Bf,JM,List.zip_append h.len]
  congr 1
  rw[List.zip_map']
 refine⟨?_,Bj,hm,fun x=>?_,fun x p hp=>?_,fun x hx=>?_,?_⟩
 ·rw[Bf,JM,List.length_append,List.length_append,List.length_map,List.length_map,h.len]
 ·rw[L9]
  constructor
  ·intro hx
   exact⟨(hm x).mp (by rw[Bf];exact List.mem_append_right _ hx),Lg x (new x hx)⟩
  ·rintro⟨h1,h2⟩
   have h3:=(hm x).mpr h1
   rw[Bf] at h3
   rcases List.mem_append.mp h3 with q | q
   ·have:=h2 k ((h.mem x).mp q)
    omega
   ·exact q
 ·rw[K7] at hp
  rcases List.mem_append.mp hp with q | q
  ·obtain⟨q1,q2,q3⟩:=h.par x p q
   exact⟨q1,by rw[Bf];exact List.mem_append_left _ q2,q3⟩
  ·obtain⟨f,hf,e⟩:=List.mem_map.mp q
   cases e
   obtain⟨f1,f2⟩:=e4 f hf
   have hc:=(h.rg f.2).mp f1
   refine⟨f2,by rw[Bf];exact List.mem_append_left _ ((h.mem _).mpr hc.1),fun j hj=>?_⟩
   have:=Lg f.1 (new f.1 (List.mem_map.mpr ⟨f,hf,rfl⟩)) j hj
   exact⟨j - 1,by omega,Rb.mono (by omega) hc.1⟩
 ·rw[K7] at hx
  rcases List.mem_append.mp hx with q | q
  ·exact h.non x q
  ·obtain⟨f,hf,e⟩:=List.mem_map.mp q
   cases e
 ·have hs:=h.sz.2 hr
  rw[Bf,List.length_append,List.length_map]
  refine⟨by omega,fun gR=>?_⟩
  have:fs≠[]:=fun z=>gR (by rw[L9,z];rfl)
  have:=List.length_pos_iff.mpr this
  omega
theorem Rng.last{k:Nat}{ks:List α}{ps:List (Option α)}(h:Rng nb a k ks ps []):∀x,x∈ks↔∃j,Rb nb a j x:=by
 have none:∀x,¬(Rb nb a k x∧∀j,Rb nb a j x→k≤j):=fun x q=>by
  have:=(h.rg x).mpr q
  cases this
 have hk:∀x,Rb nb a k x→∃i,i<k∧Rb nb a i x:=fun x hx=>by
  by_cases q:∀j,Rb nb a j x→k≤j
  ·exact absurd ⟨hx,q⟩ (none x)
  ·obtain⟨j,hj⟩:=Classical.not_forall.mp q
   obtain⟨Nu,QN⟩:=Classical.not_imp.mp hj
   exact⟨j,by omega,Nu⟩
 have all:∀j x,Rb nb a j x→Rb nb a k x:=by
  intro j
  induction j with
  |zero=>intro x hx;exact Rb.mono (Nat.zero_le _) hx
  |succ j ih=>
   rintro x (q | ⟨y,hy,hx⟩)
   ·exact ih x q
   ·obtain⟨i,hi,hr⟩:=hk y (ih y hy)
    exact Rb.mono (i:=i+1) (by omega) (.inr ⟨y,hr,hx⟩)
 exact fun x=>⟨fun q=>⟨k,(h.mem x).mp q⟩,fun⟨j,hj⟩=>(h.mem x).mpr (all j x hj)⟩
theorem ki{l U:List α}(hn:l.Nodup)(h:∀x∈l,x∈U):l.length≤U.length:=by
 induction l generalizing U with
 |nil=>simp
 |cons a l ih=>
  rw[List.nodup_cons] at hn
  have hl:∀x∈l,x∈U.erase a:=fun x hx=>by
   have gR:x≠a:=fun z=>hn.1 (by rw[←z];exact hx)
   exact(List.mem_erase_of_ne gR).mpr (h x (List.mem_cons_of_mem _ hx))
  have h1:=ih hn.2 hl
  have h2:=List.length_erase_of_mem (h a (List.mem_cons_self ..))
  have h3:=List.length_pos_of_mem (h a (List.mem_cons_self ..))
  rw[List.length_cons]
  omega
end
end K1
namespace K1
open PySem L2 L3
def keyOf(c:Cell):List Key:=[.inl (c.1:Int), .inl (c.2:Int)]
theorem fU{a b:Cell}(h:keyOf a=keyOf b):a=b:=by
 unfold keyOf at h
 injection h with h1 h2
 injection h1 with h1
 injection h2 with h2 _
 injection h2 with h2
 exact Prod.ext (Int.ofNat.inj h1) (Int.ofNat.inj h2)
theorem iX(c:Cell):eu (cD c)=some (keyOf c):=rfl
theorem gb{c:Cell}:∀{ks:List Cell}{ds:List D},c∉ks→eJ (ks.map keyOf) ds (keyOf c)=none
 |[],_,_=>by simp[eJ]
 |k::ks,[],_=>by simp[eJ]
 |k::ks,d::ds,h=>by
  rw[List.map_cons]
  unfold eJ
  rw[if_neg (fun z=>h (by rw[fU z];exact List.mem_cons_self ..))]
  exact gb fun z=>h (List.mem_cons_of_mem _ z)
theorem lT{c:Cell}:∀{ks:List Cell}{ds:List D},ks.length=ds.length→c∈ks→∃d,eJ (ks.map keyOf) ds (keyOf c)=some d∧(c,d)∈ks.zip ds
 |[],_,_,h=>by cases h
 |k::ks,[],hl,_=>by simp at hl
 |k::ks,d::ds,hl,h=>by
  rw[List.map_cons]
  unfold eJ
  by_cases hk:k=c
  ·subst hk
   rw[if_pos rfl]
   exact⟨d,rfl,by simp⟩
  ·rw[if_neg (fun z=>hk (fU z))]
   have hc:c∈ks:=by
    rcases List.mem_cons.mp h with q | q
    ·exact absurd q.symm hk
    ·exact q
   obtain⟨d',e1,e2⟩:=lT (ds:=ds) (by simpa using hl) hc
   exact⟨d',e1,by simp[e2]⟩
theorem yA{neg:Bool}{ks:List Cell}{ds:List D}{c:Cell}(hl:ks.length=ds.length):pK neg (cD c) (.dct (ks.map keyOf) ds)=M.ret (.bl (if neg then !decide (c∈ks) else decide (c∈ks))):=by
 show (match (eu (cD c)).map (eJ (ks.map keyOf) ds) with | some o=>M.ret (D.bl (if neg then !o.isSome else o.isSome)) | none=>M.stuck)=_
 rw[iX]
 show M.ret (D.bl (if neg then !(eJ (ks.map keyOf) ds (keyOf c)).isSome else(eJ (ks.map keyOf) ds (keyOf c)).isSome))=_
 by_cases h:c∈ks
 ·obtain⟨d,e,_⟩:=lT hl h
  rw[e,decide_eq_true h];rfl
 ·rw[gb h,decide_eq_false h];rfl
theorem vh{ks:List Cell}{ds:List D}{c:Cell}{d:D}(h:c∉ks)(hl:ds.length<lim):lF (.dct (ks.map keyOf) ds) (cD c) d=some (.dct ((ks++[c]).map keyOf) (ds++[d])):=by
 show (match eu (cD c) with | some kk=>if ds.length<lim then some (C.dct (c6 (ks.map keyOf) ds kk) (cx (ks.map keyOf) ds kk d)) else none | none=>none)=_
 rw[iX]
 show (if ds.length<lim then some (C.dct (c6 (ks.map keyOf) ds (keyOf c)) (cx (ks.map keyOf) ds (keyOf c) d)) else none)=_
 rw[if_pos hl]
 unfold c6 cx
 rw[gb h]
 simp
theorem Hg{τ:DT}{ρ:a9}{b:Bool}(h:τ (GQ ρ)=M.ret b):Hf τ ρ=M.ret b:=by
 unfold Hf
 rw[h]
 rfl
theorem El{c:DT}{body:DS}{n:Nat}{ρ ρ':a9}{m:M Out}(h1:c ρ=M.ret true)(h2:body ρ=M.ret (.nx ρ'))(h3:eB c body n ρ'=m):eB c body (n+1) ρ=m:=by
 show (c ρ>>=fun b=>if b then body ρ>>=fun o=>match o with | .nx ρ'=>eB c body n ρ' | .rt d=>M.ret (.rt d) else M.ret (.nx ρ))=_
 rw[h1,ak,if_pos rfl,h2]
 exact h3
theorem Ek{c:DT}{body:DS}{n:Nat}{ρ:a9}(h1:c ρ=M.ret false):eB c body (n+1) ρ=M.ret (.nx ρ):=by
 show (c ρ>>=fun b=>if b then body ρ>>=fun o=>match o with | .nx ρ'=>eB c body n ρ' | .rt d=>M.ret (.rt d) else M.ret (.nx ρ))=_
 rw[h1]
 rfl
def C_:Option Cell→D
 |none=> .non
 |some c=>cD c
abbrev Bx(ks:List Cell)(ps:List (Option Cell)):C:= .dct (ks.map keyOf) (ps.map C_)
abbrev yf(ks:List Cell)(ps:List (Option Cell)):D:= .dct (ks.map keyOf) (ps.map C_)
abbrev sb(b s w:D)(ks:List Cell)(ps:List (Option Cell))(x4 x5 x6 x7:Option Sl):a9:=[fz b,fz s,fz w,some (.ow (Bx ks ps)),x4,x5,x6,x7]
structure Bok (R W:Nat) (s:Bk Cell):Prop where
 len:s.ks.length=s.ps.length
 nd:s.ks.Nodup
 on:∀x∈s.ks,On R W x
 fu:s.fu.length≤s.ks.length
theorem Bok.le{R W:Nat}{s:Bk Cell}(h:Bok R W s):s.ks.length≤R*W:=by
 rw[←dg R W]
 exact ki h.nd fun x hx=>aM.mpr (h.on x hx)
theorem Bok.step{R W:Nat}{s:Bk Cell}(h:Bok R W s){c x:Cell}(hx:On R W x):Bok R W (d_ c s x):=by
 unfold d_
 split
 ·exact h
 ·rename_i hn
  refine⟨by simp[h.len],?_,fun y hy=>?_,by simp;exact h.fu⟩
  ·refine List.nodup_append.mpr ⟨h.nd,by simp,fun y hy z hz e=>?_⟩
   have hz:z=x:=by simpa using hz
   rw[e,hz] at hy
   exact hn hy
  ·rcases List.mem_append.mp hy with q | q
   ·exact h.on y q
   ·have:y=x:=by simpa using q
    rw[this];exact hx
def Jz:DS:=cH [7] (gB (Hf (dn (d2 (pK true) (dV 7) (dV 3)))) (aE (jq 3 (dV 7) (dV 6)) (mN 5 (dV 7))) cY)
theorem Gi{bd:List Str}{W:Nat}(hg:Brd bd W){a c x:Cell}{w:D}{r:Option Sl}{s:Bk Cell}(h:Bok bd.length W s):
 Jz (sb (brd bd) (cD a) w s.ks s.ps r (some (.ow (.lst (s.fu.map cD)))) (fz (cD c)) (fz (cD x)))=M.ret (.nx (sb (brd bd) (cD a) w (d_ c s x).ks (d_ c s x).ps r (some (.ow (.lst ((d_ c s x).fu.map cD)))) (fz (cD c)) none)):=by
 have hle:=h.le
 have hm:bd.length*W≤64:=Nat.mul_le_mul hg.r8 hg.w8
 have ht:Hf (dn (d2 (pK true) (dV 7) (dV 3))) (sb (brd bd) (cD a) w s.ks s.ps r (some (.ow (.lst (s.fu.map cD)))) (fz (cD c)) (fz (cD x)))=M.ret (!decide (x∈s.ks)):=
  Hg (gT ((bo (x:=cD x) (y:=yf s.ks s.ps) rfl rfl).trans (yA (neg:=true) (by rw[List.length_map];exact h.len))))
 by_cases hx:x∈s.ks
 ·rw[decide_eq_true hx] at ht
  have e:d_ c s x=s:=if_pos hx
  rw[e]
  exact(bD (dR ht rfl)).trans rfl
 ·rw[decide_eq_false hx] at ht
  have e:d_ c s x=⟨s.ks++[x],s.ps++[some c],s.fu++[x]⟩:=if_neg hx
  rw[e]
  refine(bD (ρ':=sb (brd bd) (cD a) w (s.ks++[x]) (s.ps++[some c]) r (some (.ow (.lst ((s.fu++[x]).map cD)))) (fz (cD c)) (fz (cD x))) (fC ht (aj (ρ':=sb (brd bd) (cD a) w (s.ks++[x]) (s.ps++[some c]) r (some (.ow (.lst (s.fu.map cD)))) (fz (cD c)) (fz (cD x))) ?_ ?_))).trans rfl
  ·show (match lF (Bx s.ks s.ps) (cD x) (cD c) with | some c'=>M.ret (Out.nx (List.set (sb (brd bd) (cD a) w s.ks s.ps r (some (.ow (.lst (s.fu.map cD)))) (fz (cD c)) (fz (cD x))) 3 (some (.ow c')))) | none=>M.stuck)=_
   rw[vh hx (by rw[List.length_map,←h.len,cN];omega)]
   rw[show s.ps.map C_++[cD c]=(s.ps++[some c]).map C_ by simp[C_]]
   rfl
  ·show (if (s.fu.map cD).length<lim then M.ret (Out.nx (sb (brd bd) (cD a) w (s.ks++[x]) (s.ps++[some c]) r (some (.ow (.lst (s.fu.map cD++[cD x])))) (fz (cD c)) (fz (cD x)))) else M.stuck)=_
   have:=h.fu
   rw[if_pos (by rw[List.length_map,cN];omega)]
   rw[show s.fu.map cD++[cD x]=(s.fu++[x]).map cD by simp]
def Jy:DS:=cH [6,7] (dH (putN 7) (cE (ai 3 cG (aC (dV 0) (aC (dV 6) (aC (dV 2) aN))))) Jz)
theorem zb{bd:List Str}{W w:Nat}(hg:Brd bd W)(hw:Ways w){a c:Cell}(hc:On bd.length W c){r:Option Sl}{s:Bk Cell}(h:Bok bd.length W s):
 Bok bd.length W (lV (aO bd W w) s c)∧Jy (sb (brd bd) (cD a) (.int (w:Int)) s.ks s.ps r (some (.ow (.lst (s.fu.map cD)))) (fz (cD c)) none)=
  M.ret (.nx (sb (brd bd) (cD a) (.int (w:Int)) (lV (aO bd W w) s c).ks (lV (aO bd W w) s c).ps r (some (.ow (.lst ((lV (aO bd W w) s c).fu.map cD)))) none none)):=by
 obtain⟨h1,e⟩:=k0 (put:=putN 7) (body:=Jz) cD (fun s:Bk Cell=>sb (brd bd) (cD a) (.int (w:Int)) s.ks s.ps r (some (.ow (.lst (s.fu.map cD)))) (fz (cD c)) none) (d_ c) (Bok bd.length W) (aO bd W w c) s h fun s hs x hx=>
  ⟨hs.step ((cb hw).mp hx).1,_,rfl,Gi hg hs⟩
 refine⟨h1,(bD (e9 ?_ e)).trans rfl⟩
 show (ai 3 cG (aC (dV 0) (aC (dV 6) (aC (dV 2) aN))) (sb (brd bd) (cD a) (.int (w:Int)) s.ks s.ps r (some (.ow (.lst (s.fu.map cD)))) (fz (cD c)) none)>>=lstM)=_
 have e2:ai 3 cG (aC (dV 0) (aC (dV 6) (aC (dV 2) aN))) (sb (brd bd) (cD a) (.int (w:Int)) s.ks s.ps r (some (.ow (.lst (s.fu.map cD)))) (fz (cD c)) none)=M.ret (.lst ((aO bd W w c).map cD)):=nY hg hw hc
 rw[e2]
 rfl
def LS:DS:=cH [5,6,7] (aE (xD 5) (aE (dH (putN 6) (cE (dV 4)) Jy) (DV 5 (bN 4 (dV 5)))))
theorem Gh{bd:List Str}{W w:Nat}(hg:Brd bd W)(hw:Ways w){a:Cell}{ring:List Cell}(hr:∀c∈ring,On bd.length W c){s:Bk Cell}(h:Bok bd.length W s)(hf:s.fu=[]):
 Bok bd.length W (cK (aO bd W w) s ring)∧LS (sb (brd bd) (cD a) (.int (w:Int)) s.ks s.ps (fz (.lst (ring.map cD))) none none none)=
  M.ret (.nx (sb (brd bd) (cD a) (.int (w:Int)) (cK (aO bd W w) s ring).ks (cK (aO bd W w) s ring).ps (fz (.lst ((cK (aO bd W w) s ring).fu.map cD))) none none none)):=by
 obtain⟨h1,e⟩:=k0 (put:=putN 6) (body:=Jy) cD (fun s:Bk Cell=>sb (brd bd) (cD a) (.int (w:Int)) s.ks s.ps (fz (.lst (ring.map cD))) (some (.ow (.lst (s.fu.map cD)))) none none) (lV (aO bd W w)) (Bok bd.length W) ring s h fun s hs c hc=>
  ⟨(zb (a:=a) (r:=fz (.lst (ring.map cD))) hg hw (hr c hc) hs).1,_,rfl,(zb hg hw (hr c hc) hs).2⟩
 refine⟨h1,(bD (ρ':=sb (brd bd) (cD a) (.int (w:Int)) (cK (aO bd W w) s ring).ks (cK (aO bd W w) s ring).ps (fz (.lst ((cK (aO bd W w) s ring).fu.map cD))) (fz (.lst ((cK (aO bd W w) s ring).fu.map cD))) none none) ?_).trans rfl⟩
 refine aj (ρ':=sb (brd bd) (cD a) (.int (w:Int)) s.ks s.ps (fz (.lst (ring.map cD))) (some (.ow (.lst []))) none none) rfl (aj (ρ':=sb (brd bd) (cD a) (.int (w:Int)) (cK (aO bd W w) s ring).ks (cK (aO bd W w) s ring).ps (fz (.lst (ring.map cD))) (some (.ow (.lst ((cK (aO bd W w) s ring).fu.map cD)))) none none) ?_ rfl)
 rw[hf] at e
 exact e9 rfl e
theorem vo{bd:List Str}{W w:Nat}(hg:Brd bd W)(hw:Ways w){a:Cell}(ha:On bd.length W a):∀(fuel k:Nat) (ks:List Cell) (ps:List (Option Cell)) (ring:List Cell),bd.length*W+2≤fuel+k→Rng (aO bd W w) a k ks ps ring→(∀x∈ks,On bd.length W x)→
 ∃k' ks' Mt,Rng (aO bd W w) a k' ks' Mt []∧(∀x∈ks',On bd.length W x)∧eB (cJ (dV 4)) LS fuel (sb (brd bd) (cD a) (.int (w:Int)) ks ps (fz (.lst (ring.map cD))) none none none)=M.ret (.nx (sb (brd bd) (cD a) (.int (w:Int)) ks' Mt (fz (.lst [])) none none none))
 |0,k,ks,ps,ring,hf,hR,nL=>by
  have h1:ks.length≤bd.length*W:=by
   rw[←dg bd.length W]
   exact ki hR.nd fun x hx=>aM.mpr (nL x hx)
  have:=hR.sz.1
  omega
 |fuel+1,k,ks,ps,[],hf,hR,nL=>⟨k,ks,ps,hR,nL,Ek rfl⟩
 |fuel+1,k,ks,ps,c::ring,hf,hR,nL=>by
  have gR:c::ring≠[]:=by simp
  have hN:=hR.next gR
  have NJ:∀x∈c::ring,On bd.length W x:=fun x hx=>nL x ((hR.mem x).mpr ((hR.rg x).mp hx).1)
  obtain⟨hb,e⟩:=Gh (a:=a) hg hw NJ (s:=⟨ks,ps,[]⟩) ⟨hR.len,hR.nd,nL,Nat.zero_le _⟩ rfl
  obtain⟨k',ks',Mt,q1,q2,q3⟩:=vo hg hw ha fuel (k+1) _ _ _ (by omega) hN hb.on
  exact⟨k',ks',Mt,q1,q2,El rfl e q3⟩
theorem iJ{bd:List Str}{W w:Nat}(hg:Brd bd W)(hw:Ways w){a:Cell}(ha:On bd.length W a):
 ∃k ks ps,Rng (aO bd W w) a k ks ps []∧(∀x∈ks,On bd.length W x)∧aQ [brd bd,cD a, .int (w:Int)]=M.ret (yf ks ps):=by
 have hm:bd.length*W≤64:=Nat.mul_le_mul hg.r8 hg.w8
 obtain⟨k,ks,ps,h1,h2,h3⟩:=vo hg hw ha lim 0 [a] [none] [a] (by rw[cN];omega) (Rng.zero _ _) (fun x hx=>(show x=a by simpa using hx)▸ha)
 refine⟨k,ks,ps,h1,h2,aU (aj (ρ':=[fz (brd bd),fz (cD a),fz (.int (w:Int)),some (.ow (Bx [a] [none])),none,none,none,none]) rfl (aj (ρ':=sb (brd bd) (cD a) (.int (w:Int)) [a] [none] (fz (.lst [cD a])) none none none) rfl (aj (ρ':=sb (brd bd) (cD a) (.int (w:Int)) ks ps (fz (.lst [])) none none none) (eF h3) rfl)))⟩
def p0{α:Type}[DecidableEq α](n:Nat)(enc:α→D):Prop:=∀k x y,kQ (n+k) (enc x) (enc y)=some (decide (x=y))
theorem rO(n:Nat)(i j:Int):kQ n (.int i) (.int j)=some (i==j):=by cases n<;>rfl
theorem yl{α:Type}[DecidableEq α]{enc:α→D}{f:D→D→Option Bool}(h:∀x y,f (enc x) (enc y)=some (decide (x=y))):∀(xs ys:List α),nB f (xs.map enc) (ys.map enc)=some (decide (xs=ys))
 |[],[]=>rfl
 |[],_::_=>by simp[nB]
 |_::_,[]=>by simp[nB]
 |x::xs,y::ys=>by
  rw[List.map_cons,List.map_cons]
  show (match f (enc x) (enc y),nB f (xs.map enc) (ys.map enc) with | some b,some r=>some (b&&r) | _,_=>none)=_
  rw[h,yl h xs ys]
  show some (decide (x=y)&&decide (xs=ys))=_
  congr 1
  by_cases h1:x=y<;>by_cases h2:xs=ys<;>simp[h1,h2]
theorem BW:p0 1 cD:=fun k a b=>by
 rw[Nat.add_comm]
 show (match kQ k (.int (a.1:Int)) (.int (b.1:Int)),nB (kQ k) [.int (a.2:Int)] [.int (b.2:Int)] with | some b,some r=>some (b&&r) | _,_=>none)=_
 rw[rO]
 show (match some ((a.1:Int)==(b.1:Int)),(match kQ k (.int (a.2:Int)) (.int (b.2:Int)),nB (kQ k) [] [] with | some b,some r=>some (b&&r) | _,_=>none) with | some b,some r=>some (b&&r) | _,_=>none)=_
 rw[rO]
 show some (((a.1:Int)==(b.1:Int))&&(((a.2:Int)==(b.2:Int))&&true))=_
 rw[kh,kh,Bool.and_true]
 congr 1
 obtain⟨a1,a2⟩:=a
 obtain⟨b1,b2⟩:=b
 by_cases h1:a1=b1<;>by_cases h2:a2=b2<;>simp[h1,h2]
theorem mQ{α:Type}[DecidableEq α]{enc:α→D}{n:Nat}(h:p0 n enc):p0 (n+1) (fun l:List α=> .lst (l.map enc)):=fun k x y=>by
 rw[show n+1+k=(n+k)+1 by omega]
 exact yl (h k) x y
theorem EO:p0 0 D.int:=fun k x y=>by
 rw[rO]
 congr 1
theorem MQ{α:Type}[DecidableEq α]{enc:α→D}{n:Nat}(h:p0 n enc)(hn:n≤6)(x y:α):nE (enc x) (enc y)=M.ret (.bl (decide (x=y))):=by
 have:=h (6 - n) x y
 rw[show n+(6 - n)=6 by omega] at this
 unfold nE
 rw[this]
theorem wt{α:Type}[DecidableEq α]{enc:α→D}{n:Nat}(h:p0 n enc)(hn:n≤6)(x y:α):jB (enc x) (enc y)=M.ret (.bl (!decide (x=y))):=by
 have:=h (6 - n) x y
 rw[show n+(6 - n)=6 by omega] at this
 unfold jB
 rw[this]
abbrev cL(l:List Cell):D:= .lst (l.map cD)
theorem yN(a b:List Cell):jB (cL a) (cL b)=M.ret (.bl (!decide (a=b))):=wt (mQ BW) (by decide) a b
def ic(c:Cell):List Int:=[(c.1:Int),(c.2:Int)]
def BI(a b:Cell):Bool:=if a.1=b.1 then decide (a.2<b.2) else decide (a.1<b.1)
def Fb(k:Cell):List Cell→List Cell
 |[]=>[k]
 |x::r=>if BI k x then k::x::r else x::Fb k r
def iH:List Cell→List Cell
 |[]=>[]
 |k::r=>Fb k (iH r)
theorem wU(a b:Cell):dB (ic a) (ic b)=BI a b:=by
 show (if (a.1:Int)=(b.1:Int) then(if (a.2:Int)=(b.2:Int) then false else decide ((a.2:Int)<(b.2:Int))) else decide ((a.1:Int)<(b.1:Int)))=_
 unfold BI
 by_cases h:a.1=b.1
 ·rw[if_pos h,if_pos (by omega)]
  by_cases h2:a.2=b.2
  ·rw[if_pos (by omega),h2];simp
  ·rw[if_neg (by omega)]
   by_cases h3:a.2<b.2
   ·rw[decide_eq_true h3,decide_eq_true (by omega)]
   ·rw[decide_eq_false h3,decide_eq_false (by omega)]
 ·rw[if_neg h,if_neg (by omega)]
  by_cases h3:a.1<b.1
  ·rw[decide_eq_true h3,decide_eq_true (by omega)]
  ·rw[decide_eq_false h3,decide_eq_false (by omega)]
theorem Cq(k:Cell):∀l:List Cell,insI (ic k) (l.map ic)=(Fb k l).map ic
 |[]=>rfl
 |x::r=>by
  rw[List.map_cons]
  unfold insI Fb
  rw[wU]
  cases BI k x with
  |true=>rfl
  |false=>rw[if_neg (by decide),if_neg (by decide),List.map_cons,Cq k r]
theorem jb:∀l:List Cell,sortI (l.map ic)=(iH l).map ic
 |[]=>rfl
 |k::r=>by
  rw[List.map_cons]
  unfold sortI iH
  rw[jb r,Cq]
theorem rZ{a b:Cell}(h:ic a=ic b):a=b:=by
 unfold ic at h
 injection h with h1 h2
 injection h2 with h2 _
 exact Prod.ext (Int.ofNat.inj h1) (Int.ofNat.inj h2)
theorem iZ{x:Cell}{l:List Cell}:x∈iH l↔x∈l:=by
 have h:=c5 (x:=ic x) (l:=l.map ic)
 rw[jb] at h
 constructor
 ·intro hx
  obtain⟨y,hy,e⟩:=List.mem_map.mp (h.mp (List.mem_map.mpr ⟨x,hx,rfl⟩))
  rw[←rZ e];exact hy
 ·intro hx
  obtain⟨y,hy,e⟩:=List.mem_map.mp (h.mpr (List.mem_map.mpr ⟨x,hx,rfl⟩))
  rw[←rZ e];exact hy
def RiseC(l:List Cell):Prop:=l.Pairwise fun a b=>BI a b=true
theorem s8{l:List Cell}:v8 (l.map ic)↔RiseC l:=by
 unfold v8 RiseC
 rw[List.pairwise_map]
 constructor<;>intro h<;>refine List.Pairwise.imp ?_ h<;>intro a b q
 ·rw[←wU];exact q
 ·rw[wU];exact q
theorem uN{l:List Cell}(h:l.Nodup):(l.map ic).Nodup:=by
 unfold List.Nodup at h⊢
 rw[List.pairwise_map]
 exact List.Pairwise.imp (fun h z=>h (rZ z)) h
theorem gN{l:List Cell}(h:l.Nodup):RiseC (iH l):=by
 have:=fb (uN h)
 rw[jb] at this
 exact s8.mp this
theorem i8{a b:List Cell}(ha:RiseC a)(hb:RiseC b)(h:∀x,x∈a↔x∈b):a=b:=by
 have e:=kD (s8.mpr ha) (s8.mpr hb) fun x=>by
  constructor
  ·intro hx
   obtain⟨y,hy,rfl⟩:=List.mem_map.mp hx
   exact List.mem_map.mpr ⟨y,(h y).mp hy,rfl⟩
  ·intro hx
   obtain⟨y,hy,rfl⟩:=List.mem_map.mp hx
   exact List.mem_map.mpr ⟨y,(h y).mpr hy,rfl⟩
 have inj:∀(a b:List Cell),a.map ic=b.map ic→a=b:=by
  intro a
  induction a with
  |nil=>intro b h;cases b with
   |nil=>rfl
   |cons=>simp at h
  |cons x a ih=>intro b h;cases b with
   |nil=>simp at h
   |cons y b=>
    rw[List.map_cons,List.map_cons] at h
    injection h with h1 h2
    rw[rZ h1,ih b h2]
 exact inj a b e
theorem RiseC.nodup{l:List Cell}(h:RiseC l):l.Nodup:=by
 refine List.Pairwise.imp ?_ h
 intro a b q z
 subst z
 unfold BI at q
 rw[if_pos rfl] at q
 have:=of_decide_eq_true q
 omega
theorem lh:∀ks:List Cell,eT (ks.map keyOf)=some (ks.map ic)
 |[]=>rfl
 |k::r=>by
  show (match qm (keyOf k),eT (r.map keyOf) with | some x,some xs=>some (x::xs) | _,_=>none)=_
  rw[lh r]
  rfl
theorem C3{ks:List Cell}(h:ks.Nodup)(hl:ks.length<64):cT (ks.map ic)=true:=by
 unfold cT
 rw[List.length_map,decide_eq_true (uN h),decide_eq_true hl]
 simp
 intro a b _ z
 cases z
theorem vC{ks:List Cell}{ds:List D}(h:ks.Nodup)(hl:ks.length<64):iI [.dct (ks.map keyOf) ds]=M.ret (cL (iH ks)):=by
 show (match eT (ks.map keyOf) with | some ks=>if cT ks&&ks.all (fun k=>decide (k.length≤lim)) then M.ret (D.lst ((sortI ks).map tupI)) else M.stuck | none=>M.stuck)=_
 rw[lh]
 show (if cT (ks.map ic)&&(ks.map ic).all (fun k=>decide (k.length≤lim)) then M.ret (D.lst ((sortI (ks.map ic)).map tupI)) else M.stuck)=_
 rw[C3 h hl]
 have:(ks.map ic).all (fun k=>decide (k.length≤lim))=true:=by
  simp
  intro a b _
  show 2≤lim
  decide
 rw[this,Bool.and_true,if_pos rfl,jb,List.map_map]
 rfl
def Cn(bd:List Str)(W w:Nat)(a b:Cell):Prop:=∃j,Rb (aO bd W w) a j b
theorem Cn.refl{bd:List Str}{W w:Nat}{a:Cell}:Cn bd W w a a:=⟨0,rfl⟩
theorem wV{bd:List Str}{W w:Nat}(hw:Ways w){a b:Cell}(ha:On bd.length W a)(h:b∈aO bd W w a):a∈aO bd W w b:=by
 obtain⟨h1,h2,h3⟩:=(cb hw).mp h
 exact(cb hw).mpr ⟨ha,by rw[CW];exact h2,h3.symm⟩
theorem qW{bd:List Str}{W w:Nat}(hw:Ways w){a b:Cell}(ha:On bd.length W a):∀{j:Nat},Rb (aO bd W w) a j b→On bd.length W b
 |0,h=>by rw[show b=a from h];exact ha
 |j+1, .inl h=>qW hw ha h
 |j+1, .inr ⟨y,_,hy⟩=>((cb hw).mp hy).1
theorem oV{bd:List Str}{W w:Nat}{a c b:Cell}(h:c∈aO bd W w a):∀{j:Nat},Rb (aO bd W w) c j b→Rb (aO bd W w) a (j+1) b
 |0,q=> .inr ⟨a,rfl,by rw[show b=c from q];exact h⟩
 |j+1, .inl q=> .inl (oV h q)
 |j+1, .inr ⟨y,q,hy⟩=> .inr ⟨y,oV h q,hy⟩
theorem sV{bd:List Str}{W w:Nat}(hw:Ways w){a b:Cell}(ha:On bd.length W a):∀{j:Nat},Rb (aO bd W w) a j b→Rb (aO bd W w) b j a
 |0,h=>show a=b from(show b=a from h).symm
 |j+1, .inl h=> .inl (sV hw ha h)
 |j+1, .inr ⟨y,q,hy⟩=>oV (wV hw (qW hw ha q) hy) (sV hw ha q)
theorem oW{bd:List Str}{W w:Nat}{a b c:Cell}{i:Nat}(h:Rb (aO bd W w) a i b):∀{j:Nat},Rb (aO bd W w) b j c→Rb (aO bd W w) a (i+j) c
 |0,q=>by rw[show c=b from q];exact h
 |j+1, .inl q=> .inl (oW h q)
 |j+1, .inr ⟨y,q,hy⟩=> .inr ⟨y,oW h q,hy⟩
theorem lH{bd:List Str}{W w:Nat}(hw:Ways w){a b:Cell}:∀{j:Nat},Rb (aO bd W w) a j b→lt bd b=lt bd a
 |0,h=>by rw[show b=a from h]
 |j+1, .inl h=>lH hw h
 |j+1, .inr ⟨y,q,hy⟩=>((cb hw).mp hy).2.2.trans (lH hw q)
section
variable{bd:List Str}{W w:Nat}{a b c:Cell}
theorem Cn.on(hw:Ways w)(ha:On bd.length W a)(h:Cn bd W w a b):On bd.length W b:=let ⟨_,q⟩:=h;qW hw ha q
theorem Cn.symm(hw:Ways w)(ha:On bd.length W a)(h:Cn bd W w a b):Cn bd W w b a:=let ⟨j,q⟩:=h;⟨j,sV hw ha q⟩
theorem Cn.trans(h:Cn bd W w a b)(h2:Cn bd W w b c):Cn bd W w a c:=let ⟨i,q⟩:=h;let ⟨j,r⟩:=h2;⟨i+j,oW q r⟩
theorem Cn.letter(hw:Ways w)(h:Cn bd W w a b):lt bd b=lt bd a:=let ⟨_,q⟩:=h;lH hw q
theorem Cn.step(h:Cn bd W w a b)(h2:c∈aO bd W w b):Cn bd W w a c:=let ⟨j,q⟩:=h;⟨j+1, .inr ⟨b,q,h2⟩⟩
end
structure IsPatch (bd:List Str) (W w:Nat) (a:Cell) (P:List Cell):Prop where
 rise:RiseC P
 mem:∀x,x∈P↔Cn bd W w a x
theorem IsPatch.one{bd:List Str}{W w:Nat}{a:Cell}{P Q:List Cell}(h:IsPatch bd W w a P)(h2:IsPatch bd W w a Q):P=Q:=i8 h.rise h2.rise fun x=>(h.mem x).trans (h2.mem x).symm
theorem iR{bd:List Str}{W:Nat}{ks:List Cell}(hn:ks.Nodup)(nL:∀x∈ks,On bd.length W x):ks.length≤bd.length*W:=by
 rw[←dg bd.length W]
 exact ki hn fun x hx=>aM.mpr (nL x hx)
theorem D9{bd:List Str}{W w:Nat}(hg:Brd bd W)(hs:bd.length*W<64)(hw:Ways w)(ha:On bd.length W a):∃P,IsPatch bd W w a P∧(aQ [brd bd,cD a, .int (w:Int)]>>=fun d=>iI [d])=M.ret (cL P):=by
 obtain⟨k,ks,ps,h1,h2,h3⟩:=iJ hg hw ha
 refine⟨iH ks,⟨gN h1.nd,fun x=>iZ.trans (h1.last x)⟩,?_⟩
 rw[h3,ak]
 exact vC h1.nd (Nat.lt_of_le_of_lt (iR h1.nd h2) hs)
theorem sN{bd:List Str}{W w:Nat}(hg:Brd bd W)(hs:bd.length*W<64)(hw:Ways w){a:Cell}(ha:On bd.length W a):∃P,IsPatch bd W w a P∧dX [brd bd,cD a, .int (w:Int)]=M.ret (cL P):=by
 obtain⟨P,h1,h2⟩:=D9 hg hs hw ha
 refine⟨P,h1,aU (aj (bu ((ao (ds:=[brd bd]) rfl rfl).trans hg.nb)) (aj (bu ((ao (ds:=[brd bd,cD a]) rfl rfl).trans (hg.nc ha))) (aj (bu ((ao (ds:=[.int (w:Int)]) rfl rfl).trans hw.nw)) (aH ?_))))⟩
 have e:(dA iI (aC (ai 3 aQ (aC (dV 0) (aC (dV 1) (aC (dV 2) aN)))) aN)) [fz (brd bd),fz (cD a),fz (.int (w:Int))]=(aQ [brd bd,cD a, .int (w:Int)]>>=fun d=>iI [d]):=by
  show ((aQ [brd bd,cD a, .int (w:Int)]>>=fun x=>M.ret [x])>>=iI)=_
  match aQ [brd bd,cD a, .int (w:Int)] with
  |none=>rfl
  |some (.ok a)=>rfl
  |some (.ex n)=>rfl
 exact e.trans h2
theorem Ku:((ax 8 8).map fun c=>dQ (ic c)).Nodup:=by decide+kernel
theorem qH{α β:Type}{f:α→β}:∀{l:List α},(l.map f).Nodup→∀a∈l,∀b∈l,f a=f b→a=b
 |x::l,h,a,ha,b,hb,e=>by
  rw[List.map_cons,List.nodup_cons] at h
  by_cases h1:a=x
  ·by_cases h2:b=x
   ·rw[h1,h2]
   ·have hb:b∈l:=(List.mem_cons.mp hb).resolve_left h2
    exact absurd (List.mem_map.mpr ⟨b,hb,by rw[←h1];exact e.symm⟩) h.1
  ·have ha:a∈l:=(List.mem_cons.mp ha).resolve_left h1
   by_cases h2:b=x
   ·exact absurd (List.mem_map.mpr ⟨a,ha,by rw[←h2];exact e⟩) h.1
   ·exact qH h.2 a ha b ((List.mem_cons.mp hb).resolve_left h2) e
theorem yr{R W:Nat}(hR:R≤8)(hW:W≤8){l:List Cell}(hn:l.Nodup)(nL:∀x∈l,On R W x):(l.map fun c=>dQ (ic c)).Nodup:=by
 have h8:∀x∈l,x∈ax 8 8:=fun x hx=>aM.mpr ⟨by have:=(nL x hx).1;omega,by have:=(nL x hx).2;omega⟩
 rw[List.Nodup,List.pairwise_map]
 refine List.Pairwise.imp_of_mem (fun {a b} ha hb h z=>h ?_) hn
 exact qH Ku a (h8 a ha) b (h8 b hb) z
theorem nN:∀l:List Cell,eU (l.map cD)=some (l.map ic)
 |[]=>rfl
 |c::l=>by
  show (match G3 (cD c),eU (l.map cD) with | some k,some ks=>some (k::ks) | _,_=>none)=_
  rw[nN l]
  rfl
theorem vA{l:List Cell}(h:RiseC l):iH l=l:=i8 (gN h.nodup) h fun x=>iZ
theorem ze{l:List Cell}(h:l.Nodup)(hl:l.length<64):xK [cL l]=M.ret (cL (iH l)):=by
 show (match eU (l.map cD) with | some ks=>if cT ks then M.ret (D.lst ((sortI ks).map tupI)) else M.stuck | none=>M.stuck)=_
 rw[nN]
 refine(if_pos (C3 h hl)).trans ?_
 rw[jb,List.map_map]
 rfl
theorem xM{R W:Nat}(hR:R≤8)(hW:W≤8){l:List Cell}(h:RiseC l)(hl:l.length<64)(nL:∀x∈l,On R W x):gO (cL l)=M.ret (cL l):=by
 show (match eU (l.map cD) with | some ks=>if cT ks=true∧(ks.map dQ).Nodup then M.ret (D.lst ((sortI ks).map tupI)) else M.stuck | none=>M.stuck)=_
 rw[nN]
 refine(if_pos ⟨C3 h.nodup hl,by rw[List.map_map];exact yr hR hW h.nodup nL⟩).trans ?_
 rw[jb,vA h,List.map_map]
 rfl
def J8(w:Nat):List Cell→Bool
 |a::b::r=>i4 w a b&&J8 w (b::r)
 |_=>true
structure IsWay (bd:List Str) (W w:Nat) (a b:Cell) (p:List Cell):Prop where
 on:∀x∈p,On bd.length W x
 hd:p.head? =some a
 lst:p.getLast? =some b
 let':∀x∈p,lt bd x=lt bd a
 RH:J8 w p=true
theorem tY{α:Type}{l:List α}{x:α}:L2.atI (l++[x]) (-1)=some x:=by
 unfold L2.atI Cw
 rw[if_neg (by decide)]
 have: -((l++[x]).length:Int)≤ -1:=by simp;omega
 rw[if_pos this]
 have e:((-1:Int)+((l++[x]).length:Int)).toNat=l.length:=by simp;omega
 show (l++[x])[((-1:Int)+((l++[x]).length:Int)).toNat]? =some x
 rw[e]
 simp
theorem Le{l:List Cell}{x:Cell}:dq (cL (l++[x])) (.int (-1))=M.ret (cD x):=by
 show (match L2.atI ((l++[x]).map cD) (-1) with | some d=>M.ret d | none=>M.stuck)=_
 rw[List.map_append,show [x].map cD=[cD x] from rfl,tY]
theorem Iv{l:List Cell}{i:Nat}{x:Cell}(h:l[i]? =some x):dq (cL l) (.int (i:Int))=M.ret (cD x):=by
 show (match L2.atI (l.map cD) (i:Int) with | some d=>M.ret d | none=>M.stuck)=_
 rw[eM (x:=cD x) (by rw[List.getElem?_map,h];rfl)]
structure Trail (nb:Cell→List Cell) (b:Cell) (p:List Cell) (x:Cell):Prop where
 hd:p.head? =some x
 lst:p.getLast? =some b
 ch:∀l r u v,p=l++u::v::r→u∈nb v
abbrev wr(bd w a b k t:D):a9:=[fz bd,fz w,fz a,fz b,fz k,fz t]
theorem cB{α:Type}{f:D→M (Option D)}(enc:α→D)(g:α→D):∀(xs:List α),(∀x∈xs,f (enc x)=M.ret (some (g x)))→cP f (xs.map enc)=M.ret (xs.map g)
 |[],_=>rfl
 |x::xs,h=>by
  rw[List.map_cons,cQ,h x (List.mem_cons_self ..),ak,cB enc g xs fun y hy=>h y (List.mem_cons_of_mem _ hy)]
  rfl
theorem JU{ρ:a9}{i:Nat}{ds:List D}(h:ρ[i]? =some (fz (.lst ds))):cE (dV i) ρ=M.ret ds:=by
 unfold cE
 rw[dU h]
 rfl
def bW(ks:List Cell)(c:Cell):List Cell:=if c∈ks then ks else ks++[c]
def bF(l:List Cell):List Cell:=l.foldl bW []
def aL(ks:List Cell):List D:=ks.map fun _=> .bl true
theorem gU{ks:List Cell}{c x:Cell}:x∈bW ks c↔x∈ks∨x=c:=by
 unfold bW
 split
 ·rename_i h
  exact⟨.inl,fun q=>q.elim id fun e=>by rw[e];exact h⟩
 ·simp
theorem lX:∀(l ks:List Cell),(ks.Nodup→(l.foldl bW ks).Nodup)∧(∀x,x∈l.foldl bW ks↔x∈ks∨x∈l)∧(l.foldl bW ks).length≤ks.length+l.length
 |[],ks=>⟨id,fun x=>by simp,by simp⟩
 |c::l,ks=>by
  obtain⟨h1,h2,h3⟩:=lX l (bW ks c)
  refine⟨fun hn=>h1 ?_,fun x=>?_,?_⟩
  ·unfold bW
   split
   ·exact hn
   ·rename_i hc
    refine List.nodup_append.mpr ⟨hn,by simp,fun y hy z hz e=>?_⟩
    have hz:z=c:=by simpa using hz
    rw[e,hz] at hy
    exact hc hy
  ·rw[List.foldl_cons,h2 x,gU]
   simp[or_assoc]
  ·rw[List.foldl_cons,List.length_cons]
   have:(bW ks c).length≤ks.length+1:=by unfold bW;split<;>simp
   omega
theorem lq{l:List Cell}{x:Cell}:x∈bF l↔x∈l:=by
 unfold bF
 rw[(lX l []).2.1 x]
 simp
theorem CM(l:List Cell):(bF l).Nodup:=(lX l []).1 List.nodup_nil
theorem Ac(l:List Cell):(bF l).length≤l.length:=by have:=(lX l []).2.2;simpa[bF] using this
theorem qZ{k:List Key}:∀{ks:List (List Key)}{l:List Cell},ks.length=l.length→lK ks (aL l) k (.bl true)=aL l
 |[],[],_=>rfl
 |k'::ks,c::l,h=>by
  show (if k'=k then D.bl true else D.bl true)::lK ks (aL l) k (.bl true)=_
  rw[qZ (by simpa using h)]
  split<;>rfl
 |[],_::_,h=>by simp at h
 |_::_,[],h=>by simp at h
theorem DB{ks:List Cell}{c:Cell}(hl:ks.length<lim):lF (.dct (ks.map keyOf) (aL ks)) (cD c) (.bl true)=some (.dct ((bW ks c).map keyOf) (aL (bW ks c))):=by
 have hlen:(aL ks).length=ks.length:=by simp[aL]
 unfold bW
 by_cases h:c∈ks
 ·rw[if_pos h]
  show (match eu (cD c) with | some kk=>if (aL ks).length<lim then some (C.dct (c6 (ks.map keyOf) (aL ks) kk) (cx (ks.map keyOf) (aL ks) kk (.bl true))) else none | none=>none)=_
  rw[iX]
  show (if (aL ks).length<lim then some (C.dct (c6 (ks.map keyOf) (aL ks) (keyOf c)) (cx (ks.map keyOf) (aL ks) (keyOf c) (.bl true))) else none)=_
  rw[if_pos (by rw[hlen];exact hl)]
  obtain⟨d,e,_⟩:=lT (ds:=aL ks) hlen.symm h
  unfold c6 cx
  rw[e]
  show some (C.dct (ks.map keyOf) (lK (ks.map keyOf) (aL ks) (keyOf c) (.bl true)))=_
  rw[qZ (by simp)]
 ·rw[if_neg h,vh h (by rw[hlen];exact hl)]
  simp[aL]
abbrev wR(l:List Cell):D:= .dct ((bF l).map keyOf) (aL (bF l))
theorem z_{l:List Cell}(hl:l.length<4000):jT [cL l]=M.ret (wR l):=by
 have e:∀(xs ks:List Cell),ks.length+xs.length<4000→forL (putN 2) (cH [2] (jq 1 (dV 2) (dC (.bl true)))) (xs.map cD) [fz (cL l),some (.ow (.dct (ks.map keyOf) (aL ks))),none]=M.ret (.nx [fz (cL l),some (.ow (.dct ((xs.foldl bW ks).map keyOf) (aL (xs.foldl bW ks)))),none]):=by
  intro xs
  induction xs with
  |nil=>intro ks _;rfl
  |cons x xs ih=>
   intro ks hk
   rw[List.length_cons] at hk
   have hle:(bW ks x).length≤ks.length+1:=by unfold bW;split<;>simp
   refine(b_ (ρ1:=[fz (cL l),some (.ow (.dct (ks.map keyOf) (aL ks))),fz (cD x)]) (ρ2:=[fz (cL l),some (.ow (.dct ((bW ks x).map keyOf) (aL (bW ks x)))),none]) rfl ?_).trans (ih (bW ks x) (by omega))
   refine(bD (ρ':=[fz (cL l),some (.ow (.dct ((bW ks x).map keyOf) (aL (bW ks x)))),fz (cD x)]) ?_).trans rfl
   show (match lF (.dct (ks.map keyOf) (aL ks)) (cD x) (.bl true) with | some c'=>M.ret (Out.nx [fz (cL l),some (.ow c'),fz (cD x)]) | none=>M.stuck)=_
   rw[DB (by rw[cN];omega)]
 refine aU (aj (ρ':=[fz (cL l),some (.ow (.dct [] [])),none]) rfl (aj (ρ':=[fz (cL l),some (.ow (.dct ((bF l).map keyOf) (aL (bF l)))),none]) (eF (e9 (ds:=l.map cD) rfl (e l [] (by simpa using hl)))) rfl))
section
variable{bd:List Str}{W w:Nat}{a b c:Cell}{p q:List Cell}
end
theorem uI{x:Cell}:∀{l:List Cell},lp (keyOf x) (l.map keyOf)=decide (x∈l)
 |[]=>rfl
 |y::l=>by
  show (decide (keyOf y=keyOf x)||lp (keyOf x) (l.map keyOf))=_
  rw[uI]
  by_cases h:y=x
  ·subst h;simp
  ·have h2:¬keyOf y=keyOf x:=fun z=>h (fU z)
   rw[decide_eq_false h2,Bool.false_or,decide_eq_decide]
   constructor
   ·exact fun q=>List.mem_cons_of_mem _ q
   ·intro q
    rcases List.mem_cons.mp q with q | q
    ·exact absurd q.symm h
    ·exact q
theorem qu:∀{l:List Cell},jZ (l.map cD)=some (l.map keyOf)
 |[]=>rfl
 |y::l=>by
  show (match eu (cD y),jZ (l.map cD) with | some k,some ks=>some (k::ks) | _,_=>none)=_
  rw[qu]
  rfl
theorem E_{neg:Bool}{x:Cell}{l:List Cell}:zM neg (cD x) (cL l)=M.ret (.bl (if neg then !decide (x∈l) else decide (x∈l))):=by
 show (match eu (cD x),jZ (l.map cD) with | some k,some ks=>M.ret (D.bl (if neg then !lp k ks else lp k ks)) | _,_=>M.stuck)=_
 rw[qu,iX]
 show M.ret (D.bl (if neg then !lp (keyOf x) (l.map keyOf) else lp (keyOf x) (l.map keyOf)))=_
 rw[uI]
theorem zE{bd:List Str}{W:Nat}(hg:Brd bd W):jS [brd bd]=M.ret (cL (ax bd.length W)):=
 aU (aj (bu ((ao (ds:=[brd bd]) rfl rfl).trans hg.nb)) (aH ((ao (ds:=[brd bd]) rfl rfl).trans (jj hg))))
theorem G6(a b:Nat):jB (.int (a:Int)) (.int (b:Int))=M.ret (.bl (!(a==b))):=by
 rw[ne_int,kh]
theorem Al{δi:DA}{δt:DT}{ρ:a9}{xs:List Cell}(h:δi ρ=M.ret (xs.map cD))(h2:∀x∈xs,δt (fz (cD x)::ρ)=M.ret false):dn (d2 jB (aJ 0 δi δt (dV 0)) (dA fq aN)) ρ=M.ret false:=by
 have cm:aJ 0 δi δt (dV 0) ρ=M.ret (.lst []):=by
  refine aX h ?_ (Nat.zero_le _)
  have:=iS (f:=eO 0 δt (dV 0) ρ) cD (fun _=>false) xs fun x hx=>by rw[rK,h2 x hx];rfl
  rw[this,show xs.filter (fun _=>false)=[] from List.filter_eq_nil_iff.mpr fun _ _=>by simp]
  rfl
 exact gT ((bo cm (y:= .lst []) rfl).trans rfl)
def GG(ks:List Cell)(f:Cell→D):C:= .dct (ks.map keyOf) (ks.map f)
def zJ(ks:List Cell)(f:Cell→D):D:= .dct (ks.map keyOf) (ks.map f)
def fj(f:Cell→D)(x:Cell)(d:D):Cell→D:=fun y=>if y=x then d else f y
theorem mY{f:Cell→D}{x:Cell}:∀{ks:List Cell},x∈ks→eJ (ks.map keyOf) (ks.map f) (keyOf x)=some (f x)
 |y::ks,h=>by
  show (if keyOf y=keyOf x then some (f y) else eJ (ks.map keyOf) (ks.map f) (keyOf x))=_
  by_cases e:y=x
  ·subst e;rw[if_pos rfl]
  ·rw[if_neg (fun z=>e (fU z))]
   rcases List.mem_cons.mp h with q | q
   ·exact absurd q.symm e
   ·exact mY q
theorem Iu{ks:List Cell}{f:Cell→D}{x:Cell}(h:x∈ks):k7 (zJ ks f) (cD x)=M.ret (f x):=by
 show (match ((eu (cD x)).map fun k=>eJ (ks.map keyOf) (ks.map f) k) with | some (some v)=>M.ret v | _=>M.stuck)=_
 rw[iX]
 show (match some (eJ (ks.map keyOf) (ks.map f) (keyOf x)) with | some (some v)=>M.ret v | _=>M.stuck)=_
 rw[mY h]
theorem sY{f:Cell→D}{x:Cell}{d:D}:∀{ks:List Cell},lK (ks.map keyOf) (ks.map f) (keyOf x) d=ks.map (fj f x d)
 |[]=>rfl
 |y::ks=>by
  show (if keyOf y=keyOf x then d else f y)::lK (ks.map keyOf) (ks.map f) (keyOf x) d=_
  rw[sY,List.map_cons]
  congr 1
  unfold fj
  by_cases e:y=x
  ·subst e;rw[if_pos rfl,if_pos rfl]
  ·rw[if_neg (fun z=>e (fU z)),if_neg e]
theorem F8{ks:List Cell}{f:Cell→D}{x:Cell}{d:D}(hl:ks.length<lim):lF (GG ks f) (cD x) d=some (GG (bW ks x) (fj f x d)):=by
 show (match eu (cD x) with | some kk=>if (ks.map f).length<lim then some (C.dct (c6 (ks.map keyOf) (ks.map f) kk) (cx (ks.map keyOf) (ks.map f) kk d)) else none | none=>none)=_
 rw[iX]
 show (if (ks.map f).length<lim then some (C.dct (c6 (ks.map keyOf) (ks.map f) (keyOf x)) (cx (ks.map keyOf) (ks.map f) (keyOf x) d)) else none)=_
 rw[if_pos (by rw[List.length_map];exact hl)]
 unfold GG bW c6 cx
 by_cases h:x∈ks
 ·rw[mY h,if_pos h]
  show some (C.dct (ks.map keyOf) (lK (ks.map keyOf) (ks.map f) (keyOf x) d))=_
  rw[sY]
 ·rw[gb h,if_neg h]
  show some (C.dct (ks.map keyOf++[keyOf x]) (ks.map f++[d]))=_
  have e1:ks.map f=ks.map (fj f x d):=List.map_congr_left fun y hy=>by
   unfold fj;rw[if_neg (fun z:y=x=>h (z▸hy))]
  have e2:(ks++[x]).map (fj f x d)=ks.map (fj f x d)++[d]:=by
   rw[List.map_append]
   congr 1
   show [fj f x d x]=[d]
   unfold fj;rw[if_pos rfl]
  rw[List.map_append,e1,e2]
  rfl
theorem F9{i:Nat}{δk δv:DE}{ρ:a9}{ks:List Cell}{f:Cell→D}{x:Cell}{d:D}(h0:ρ[i]? =some (some (.ow (GG ks f))))(hv:δv ρ=M.ret d)(hk:δk ρ=M.ret (cD x))(hl:ks.length<lim):
 jq i δk δv ρ=M.ret (.nx (ρ.set i (some (.ow (GG (bW ks x) (fj f x d)))))):=by
 unfold jq xo
 rw[h0]
 show (δv ρ>>=fun v=>δk ρ>>=fun k=>match lF (GG ks f) k v with | some c'=>M.ret (Out.nx (ρ.set i (some (.ow c')))) | none=>M.stuck)=_
 rw[hv,ak,hk,ak,F8 hl]
def rank(W:Nat)(x:Cell):Nat:=x.1*W+x.2
theorem fO{R W:Nat}{a b:Cell}(ha:On R W a)(hb:On R W b):BI a b=true↔rank W a<rank W b:=by
 unfold BI rank
 have h1:=ha.2
 have h2:=hb.2
 by_cases h:a.1=b.1
 ·rw[if_pos h,decide_eq_true_eq,h];omega
 ·rw[if_neg h,decide_eq_true_eq]
  constructor
  ·intro q
   have:(a.1+1)*W≤b.1*W:=Nat.mul_le_mul_right _ q
   rw[Nat.add_mul,Nat.one_mul] at this
   omega
  ·intro q
   refine Classical.byContradiction fun z=>?_
   have:(b.1+1)*W≤a.1*W:=Nat.mul_le_mul_right _ (by omega)
   rw[Nat.add_mul,Nat.one_mul] at this
   omega
theorem vj{R W:Nat}{a b:Cell}(ha:On R W a)(hb:On R W b)(h:rank W a=rank W b):a=b:=by
 have n1:¬BI a b=true:=fun z=>by have:=(fO ha hb).mp z;omega
 have n2:¬BI b a=true:=fun z=>by have:=(fO hb ha).mp z;omega
 unfold BI at n1 n2
 obtain⟨a1,a2⟩:=a
 obtain⟨b1,b2⟩:=b
 simp only at n1 n2
 by_cases h1:a1=b1
 ·rw[if_pos h1,decide_eq_true_eq] at n1
  rw[if_pos h1.symm,decide_eq_true_eq] at n2
  rw[Prod.mk.injEq];exact⟨h1,by omega⟩
 ·rw[if_neg h1,decide_eq_true_eq] at n1
  rw[if_neg (Ne.symm h1),decide_eq_true_eq] at n2
  omega
section
variable{bd:List Str}{W w:Nat}
structure Lab (bd:List Str) (W w:Nat) (L:Cell→Cell):Prop where
 on:∀x,On bd.length W x→On bd.length W (L x)
 cn:∀x,On bd.length W x→Cn bd W w x (L x)
 le:∀x,On bd.length W x→rank W (L x)≤rank W x
def mu(R W:Nat)(L:Cell→Cell):Nat:=((ax R W).map fun x=>rank W (L x)).sum
end
theorem Ir{δ:DE}{ρ:a9}{l:List Cell}(h:δ ρ=M.ret (cL l)):cE δ ρ=M.ret (l.map cD):=by
 show (δ ρ>>=lstM)=_
 rw[h]
 rfl
theorem cO(R W:Nat):RiseC (ax R W):=by
 unfold RiseC ax cy
 rw[List.pairwise_flatMap]
 constructor
 ·intro r _
  rw[List.pairwise_map]
  exact List.pairwise_lt_range.imp fun h=>by show (if _ then _ else _)=true;rw[if_pos rfl,decide_eq_true_eq];exact h
 ·refine List.pairwise_lt_range.imp fun {a b} h x hx y hy=>?_
  obtain⟨i,_,rfl⟩:=List.mem_map.mp hx
  obtain⟨j,_,rfl⟩:=List.mem_map.mp hy
  show (if a=b then _ else decide (a<b))=true
  rw[if_neg (by omega),decide_eq_true_eq]
  exact h
section
variable{bd:List Str}{W w:Nat}
theorem uD{α β:Type}{n:Nat}(f:α→List β)(h:∀a,(f a).length≤n):∀l:List α,(l.flatMap f).length≤n*l.length
 |[]=>Nat.zero_le _
 |a::l=>by
  rw[List.flatMap_cons,List.length_append,List.length_cons,Nat.mul_add,Nat.mul_one]
  have:=h a
  have:=uD f h l
  omega
def Least(bd:List Str)(W w:Nat)(x m:Cell):Prop:=Cn bd W w x m∧∀z,Cn bd W w x z→rank W m≤rank W z
end
theorem Jp{ks:List Cell}{f:Cell→D}{x:Cell}{d:D}:c6 (ks.map keyOf) (ks.map f) (keyOf x)=(bW ks x).map keyOf∧cx (ks.map keyOf) (ks.map f) (keyOf x) d=(bW ks x).map (fj f x d):=by
 unfold bW c6 cx
 by_cases h:x∈ks
 ·rw[mY h,if_pos h]
  exact⟨rfl,sY⟩
 ·rw[gb h,if_neg h]
  have e1:ks.map f=ks.map (fj f x d):=List.map_congr_left fun y hy=>by
   unfold fj;rw[if_neg (fun z:y=x=>h (z▸hy))]
  have e2:(ks++[x]).map (fj f x d)=ks.map (fj f x d)++[d]:=by
   rw[List.map_append]
   congr 1
   show [fj f x d x]=[d]
   unfold fj;rw[if_pos rfl]
  exact⟨by rw[List.map_append];rfl,by rw[e2,←e1];rfl⟩
theorem n8:∀(l ks:List Cell),bX (ks.map keyOf) (aL ks) (l.map keyOf) (aL l)=((l.foldl bW ks).map keyOf,aL (l.foldl bW ks))
 |[],ks=>rfl
 |x::l,ks=>by
  show bX (c6 (ks.map keyOf) (aL ks) (keyOf x)) (cx (ks.map keyOf) (aL ks) (keyOf x) (.bl true)) (l.map keyOf) (aL l)=_
  have h:=Jp (ks:=ks) (f:=fun _=>D.bl true) (x:=x) (d:= .bl true)
  have e:fj (fun _=>D.bl true) x (.bl true)=fun _=>D.bl true:=by
   funext y;unfold fj;split<;>rfl
  rw[e] at h
  rw[show aL ks=ks.map (fun _=>D.bl true) from rfl,h.1,h.2]
  exact n8 l (bW ks x)
theorem B2{l ks:List Cell}(h:ks.Nodup):(l.foldl bW ks).Nodup:=(lX l ks).1 h
section
open Classical
variable{bd:List Str}{W w:Nat}
noncomputable def aI(bd:List Str)(W w:Nat)(m:Cell):List Cell:=(ax bd.length W).filter fun x=>decide (Cn bd W w m x)
noncomputable def aW(bd:List Str)(W w:Nat)(l:List Cell):List Cell:=l.filter fun x=>decide (Least bd W w x x)
theorem a_(hw:Ways w){m:Cell}(hm:On bd.length W m):IsPatch bd W w m (aI bd W w m):=by
 refine⟨(cO _ _).filter _,fun x=>?_⟩
 unfold aI
 rw[List.mem_filter,aM,decide_eq_true_eq]
 exact⟨fun h=>h.2,fun h=>⟨h.on hw hm,h⟩⟩
theorem Least.on(hw:Ways w){x m:Cell}(hx:On bd.length W x)(h:Least bd W w x m):On bd.length W m:=h.1.on hw hx
theorem Least.move(hw:Ways w){x y m:Cell}(hx:On bd.length W x)(h:Least bd W w x m)(hy:Cn bd W w x y):Least bd W w y m:=
 ⟨(hy.symm hw hx).trans h.1,fun z hz=>h.2 z (hy.trans hz)⟩
theorem Least.one(hw:Ways w){x m n:Cell}(hx:On bd.length W x)(h:Least bd W w x m)(h2:Least bd W w x n):m=n:=
 vj (h.on hw hx) (h2.on hw hx) (Nat.le_antisymm (h.2 n h2.1) (h2.2 m h.1))
theorem Least.self(hw:Ways w){x m:Cell}(hx:On bd.length W x)(h:Least bd W w x m):Least bd W w m m:=h.move hw hx h.1
variable(L:Cell→Cell)
theorem qx(hw:Ways w):∃L:Cell→Cell,∀x,On bd.length W x→Least bd W w x (L x):=by
 have h:∀x,∃m,On bd.length W x→Least bd W w x m:=fun x=>by
  by_cases hx:On bd.length W x
  ·have hP:=a_ hw hx
   cases hp:aI bd W w x with
   |nil=>have:=(hP.mem x).mpr Cn.refl;rw[hp] at this;cases this
   |cons m r=>
    rw[hp] at hP
    have hm:=(hP.mem m).mp (List.mem_cons_self ..)
    refine⟨m,fun _=>⟨hm,fun z hz=>?_⟩⟩
    rcases List.mem_cons.mp ((hP.mem z).mpr hz) with rfl | Rn
    ·exact Nat.le_refl _
    ·exact Nat.le_of_lt ((fO (hm.on hw hx) (hz.on hw hx)).mp ((List.pairwise_cons.mp hP.rise).1 z Rn))
  ·exact⟨x,fun z=>absurd z hx⟩
 exact⟨fun x=>Classical.choose (h x),fun x=>Classical.choose_spec (h x)⟩
noncomputable def kz(bd:List Str)(W w:Nat):D:= .lst ((aW bd W w (ax bd.length W)).map fun m=>cL (aI bd W w m))
end
section
open Classical
variable{bd:List Str}{W w:Nat}
def OL:DS:=(cH [4,5] (gB (Hf (dn (d2 (pK true) (dV 4) (dV 3)))) (aE (bN 5 (dA iI (aC (ai 3 aQ (aC (dV 0) (aC (dV 4) (aC (dV 1) aN)))) aN))) (aE (mN 2 (dV 5)) (AM 3 (ai 1 jT (aC (dV 5) aN))))) cY))
noncomputable def zo(bd:List Str)(W w:Nat)(s:List Cell):List D:=(aW bd W w s).map fun m=>cL (aI bd W w m)
noncomputable def Ew(bd:List Str)(W w:Nat)(s ks:List Cell)(x4 x5:Option Sl):a9:=[fz (brd bd),fz (.int (w:Int)),some (.ow (.lst (zo bd W w s))),some (.ow (.dct (ks.map keyOf) (aL ks))),x4,x5]
structure Seen (bd:List Str) (W w:Nat) (s ks:List Cell):Prop where
 nd:ks.Nodup
 on:∀y∈ks,On bd.length W y
 mem:∀y,y∈ks↔∃m∈aW bd W w s,Cn bd W w m y
theorem Ej{i:Nat}{δ:DE}{ρ:a9}{ks l:List Cell}(h0:ρ[i]? =some (some (.ow (.dct (ks.map keyOf) (aL ks)))))(hd:δ ρ=M.ret (wR l))(hz:ks.length+l.length≤4096)(hh:ks=[]→((bF l).map fun c=>dQ (ic c)).Nodup):
 AM i δ ρ=M.ret (.nx (ρ.set i (some (.ow (.dct (((bF l).foldl bW ks).map keyOf) (aL ((bF l).foldl bW ks))))))):=by
 unfold AM xo
 rw[h0]
 show (δ ρ>>=fun d=>match Ei (ks.map keyOf) (aL ks) d with | some c'=>M.ret (Out.nx (ρ.set i (some (.ow c')))) | none=>M.stuck)=_
 rw[hd,ak]
 have:Ei (ks.map keyOf) (aL ks) (wR l)=some (.dct (((bF l).foldl bW ks).map keyOf) (aL ((bF l).foldl bW ks))):=by
  show (match eT ((bF l).map keyOf) with | some ns=>if (aL ks).length+(aL (bF l)).length≤lim∧((ks.map keyOf).isEmpty=true→(ns.map dQ).Nodup) then some (C.dct (bX (ks.map keyOf) (aL ks) ((bF l).map keyOf) (aL (bF l))).1 (bX (ks.map keyOf) (aL ks) ((bF l).map keyOf) (aL (bF l))).2) else none | none=>none)=_
  rw[lh]
  show (if (aL ks).length+(aL (bF l)).length≤lim∧((ks.map keyOf).isEmpty=true→(((bF l).map ic).map dQ).Nodup) then some (C.dct (bX (ks.map keyOf) (aL ks) ((bF l).map keyOf) (aL (bF l))).1 (bX (ks.map keyOf) (aL ks) ((bF l).map keyOf) (aL (bF l))).2) else none)=_
  have c1:(aL ks).length+(aL (bF l)).length≤lim:=by
   have:=Ac l
   unfold aL
   rw[List.length_map,List.length_map,cN];omega
  have c2:(ks.map keyOf).isEmpty=true→(((bF l).map ic).map dQ).Nodup:=fun z=>by
   rw[List.map_map]
   exact hh (by cases ks with | nil=>rfl | cons _ _=>cases z)
  rw[if_pos ⟨c1,c2⟩,n8]
 rw[this]
theorem vB(hg:Brd bd W)(hs:bd.length*W<64)(hw:Ways w){x:Cell}(hx:On bd.length W x){ρ:a9}(h0:dV 0 ρ=M.ret (brd bd))(h1:dV 1 ρ=M.ret (.int (w:Int)))(h4:dV 4 ρ=M.ret (cD x)):
 dA iI (aC (ai 3 aQ (aC (dV 0) (aC (dV 4) (aC (dV 1) aN)))) aN) ρ=M.ret (cL (aI bd W w x)):=by
 obtain⟨k,ks,ps,q1,q2,q3⟩:=iJ hg hw hx
 have e1:ai 3 aQ (aC (dV 0) (aC (dV 4) (aC (dV 1) aN))) ρ=M.ret (yf ks ps):=(ao (ds:=[brd bd,cD x, .int (w:Int)]) (aS h0 (aS h4 (aS h1 rfl))) rfl).trans q3
 refine(cC (xs:=[yf ks ps]) (aS e1 rfl)).trans ((vC q1.nd (Nat.lt_of_le_of_lt (iR q1.nd q2) hs)).trans ?_)
 have:iH ks=aI bd W w x:=IsPatch.one ⟨gN q1.nd,fun x=>iZ.trans (q1.last x)⟩ (a_ hw hx)
 rw[this]
theorem gr(s:List Cell)(x:Cell):aW bd W w (s++[x])=if Least bd W w x x then aW bd W w s++[x] else aW bd W w s:=by
 unfold aW
 rw[List.filter_append]
 by_cases h:Least bd W w x x
 ·rw[if_pos h,List.filter_cons_of_pos (by rw[decide_eq_true_eq];exact h),List.filter_nil]
 ·rw[if_neg h,List.filter_cons_of_neg (by rw[decide_eq_true_eq];exact h),List.filter_nil,List.append_nil]
theorem EG(hg:Brd bd W)(hs:bd.length*W<64)(hw:Ways w){L:Cell→Cell}(hL:∀x,On bd.length W x→Least bd W w x (L x)){s r ks:List Cell}{x:Cell}(e:s++x::r=ax bd.length W)(h:Seen bd W w s ks):
 ∃ks',Seen bd W w (s++[x]) ks'∧OL (Ew bd W w s ks (fz (cD x)) none)=M.ret (.nx (Ew bd W w (s++[x]) ks' none none)):=by
 have hx:On bd.length W x:=aM.mp (by rw[←e];simp)
 have Ck:=cO bd.length W
 rw[←e] at Ck
 have G2:∀y∈s,On bd.length W y:=fun y hy=>aM.mp (by rw[←e];simp[hy])
 have NJ:∀y∈r,On bd.length W y:=fun y hy=>aM.mp (by rw[←e];simp[hy])
 have E0:∀y∈s,rank W y<rank W x:=fun y hy=>(fO (G2 y hy) hx).mp ((List.pairwise_append.mp Ck).2.2 y hy x (List.mem_cons_self ..))
 have HF:∀y∈r,rank W x<rank W y:=fun y hy=>(fO hx (NJ y hy)).mp ((List.pairwise_cons.mp (List.pairwise_append.mp Ck).2.1).1 y hy)
 have QR:ks.length≤64:=by have:=iR (bd:=bd) (W:=W) h.nd h.on;omega
 have ur:s.length<64:=by
  have:=congrArg List.length e
  rw[dg,List.length_append,List.length_cons] at this
  omega
 have ht:Hf (dn (d2 (pK true) (dV 4) (dV 3))) (Ew bd W w s ks (fz (cD x)) none)=M.ret (!decide (x∈ks)):=
  Hg (gT ((bo (x:=cD x) (y:= .dct (ks.map keyOf) (aL ks)) rfl rfl).trans (yA (neg:=true) (by simp[aL]))))
 by_cases hl:Least bd W w x x
 ·have NP:x∉ks:=fun z=>by
   obtain⟨m,hm,hc⟩:=(h.mem x).mp z
   unfold aW at hm
   rw[List.mem_filter,decide_eq_true_eq] at hm
   have h1:=E0 m hm.1
   have h2:=hl.2 m (hc.symm hw (G2 m hm.1))
   omega
  rw[decide_eq_false NP] at ht
  have hP:=a_ hw hx (bd:=bd) (W:=W)
  have HC:∀y∈aI bd W w x,On bd.length W y:=fun y hy=>((hP.mem y).mp hy).on hw hx
  have EY:(aI bd W w x).length≤64:=by have:=iR (bd:=bd) (W:=W) hP.rise.nodup HC;omega
  have Mf:(zo bd W w s).length<lim:=by
   unfold zo
   rw[List.length_map,cN]
   have:=List.length_filter_le (fun x=>decide (Least bd W w x x)) s
   unfold aW
   omega
  refine⟨(bF (aI bd W w x)).foldl bW ks,⟨B2 h.nd,fun y hy=>?_,fun y=>?_⟩,?_⟩
  ·rcases((lX (bF (aI bd W w x)) ks).2.1 y).mp hy with q | q
   ·exact h.on y q
   ·exact HC y (lq.mp q)
  ·rw[(lX (bF (aI bd W w x)) ks).2.1 y,lq,h.mem y,gr,if_pos hl,hP.mem y]
   constructor
   ·rintro(⟨m,hm,hc⟩ | hc)
    ·exact⟨m,List.mem_append.mpr (.inl hm),hc⟩
    ·exact⟨x,by simp,hc⟩
   ·rintro⟨m,hm,hc⟩
    rcases List.mem_append.mp hm with hm | hm
    ·exact .inl ⟨m,hm,hc⟩
    ·rw[List.mem_singleton.mp hm] at hc;exact .inr hc
  ·have ef:zo bd W w (s++[x])=zo bd W w s++[cL (aI bd W w x)]:=by
    unfold zo
    rw[gr,if_pos hl,List.map_append]
    rfl
   refine(bD (ρ':=[fz (brd bd),fz (.int (w:Int)),some (.ow (.lst (zo bd W w s++[cL (aI bd W w x)]))),some (.ow (.dct (((bF (aI bd W w x)).foldl bW ks).map keyOf) (aL ((bF (aI bd W w x)).foldl bW ks)))),fz (cD x),fz (cL (aI bd W w x))]) (fC ht (aj (ρ':=Ew bd W w s ks (fz (cD x)) (fz (cL (aI bd W w x)))) ((aR (vB hg hs hw hx rfl rfl rfl)).trans rfl) (aj (ρ':=[fz (brd bd),fz (.int (w:Int)),some (.ow (.lst (zo bd W w s++[cL (aI bd W w x)]))),some (.ow (.dct (ks.map keyOf) (aL ks))),fz (cD x),fz (cL (aI bd W w x))]) ?_ ?_)))).trans ?_
   ·show (if (zo bd W w s).length<lim then M.ret (Out.nx [fz (brd bd),fz (.int (w:Int)),some (.ow (.lst (zo bd W w s++[cL (aI bd W w x)]))),some (.ow (.dct (ks.map keyOf) (aL ks))),fz (cD x),fz (cL (aI bd W w x))]) else M.stuck)=_
    rw[if_pos Mf]
   ·exact(Ej (ks:=ks) (l:=aI bd W w x) rfl ((ao (ds:=[cL (aI bd W w x)]) rfl rfl).trans (z_ (by omega))) (by omega) (fun _=>yr hg.r8 hg.w8 (CM _) fun y hy=>HC y (lq.mp hy))).trans rfl
   ·unfold Ew
    rw[ef]
    rfl
 ·have hm:=hL x hx
  have gR:L x≠x:=fun z=>hl (by rw[z] at hm;exact hm)
  have dw:rank W (L x)<rank W x:=by
   have h1:=hm.2 x Cn.refl
   have h2:rank W (L x)≠rank W x:=fun z=>gR (vj (hm.on hw hx) hx z)
   omega
  have Q0:L x∈s:=by
   have:L x∈s++x::r:=by rw[e];exact aM.mpr (hm.on hw hx)
   rcases List.mem_append.mp this with q | q
   ·exact q
   ·rcases List.mem_cons.mp q with q | q
    ·exact absurd q gR
    ·have:=HF _ q;omega
  have NP:x∈ks:=(h.mem x).mpr ⟨L x,by unfold aW;rw[List.mem_filter,decide_eq_true_eq];exact⟨Q0,hm.self hw hx⟩,hm.1.symm hw hx⟩
  rw[decide_eq_true NP] at ht
  refine⟨ks,⟨h.nd,h.on,fun y=>by rw[gr,if_neg hl];exact h.mem y⟩,?_⟩
  have ef:zo bd W w (s++[x])=zo bd W w s:=by
   unfold zo
   rw[gr,if_neg hl]
  refine(bD (dR ht rfl)).trans ?_
  unfold Ew
  rw[ef]
  rfl
theorem yc(hg:Brd bd W)(hs:bd.length*W<64)(hw:Ways w){L:Cell→Cell}(hL:∀x,On bd.length W x→Least bd W w x (L x)):∀(r s ks:List Cell),s++r=ax bd.length W→Seen bd W w s ks→
 ∃ks',forL (putN 4) OL (r.map cD) (Ew bd W w s ks none none)=M.ret (.nx (Ew bd W w (ax bd.length W) ks' none none))
 |[],s,ks,e,h=>by
  rw[List.append_nil] at e
  exact⟨ks,by rw[e];rfl⟩
 |x::r,s,ks,e,h=>by
  obtain⟨N1,h1,e1⟩:=EG hg hs hw hL e h
  obtain⟨N2,e2⟩:=yc hg hs hw hL r (s++[x]) N1 (by rw[List.append_assoc];exact e) h1
  exact⟨N2,(b_ rfl e1).trans e2⟩
theorem et(hg:Brd bd W)(hs:bd.length*W<64)(hw:Ways w):bK [brd bd, .int (w:Int)]=M.ret (kz bd W w):=by
 obtain⟨L,hL⟩:=qx (bd:=bd) (W:=W) hw
 obtain⟨ks,e⟩:=yc hg hs hw hL (ax bd.length W) [] [] rfl ⟨List.nodup_nil,(fun y hy=>(by cases hy)),(fun y=>⟨fun z=>(by cases z),fun⟨m,hm,_⟩=>(by cases hm)⟩)⟩
 refine aU (aj (ρ':=[fz (brd bd),fz (.int (w:Int)),some (.ow (.lst [])),none,none,none]) rfl (aj (ρ':=Ew bd W w [] [] none none) rfl (aj (ρ':=Ew bd W w (ax bd.length W) ks none none) (eF (e9 (ds:=(ax bd.length W).map cD) (Ir ((ao (ds:=[brd bd]) rfl rfl).trans (jj hg))) e)) rfl)))
end
structure NumOk (R W:Nat) (Ps:List (List Cell)) (ks:List Cell) (f:Cell→Nat):Prop where
 nd:ks.Nodup
 on:∀y∈ks,On R W y
 num:∀y∈ks,∃P,Ps[f y]? =some P∧y∈P
def PB:DS:=cH [4] (jq 1 (dV 4) (dV 2))
def G8(Ps:List (List Cell))(ks:List Cell)(f:Cell→Nat)(x2 x3 x4:Option Sl):a9:=[fz (.lst (Ps.map cL)),some (.ow (GG ks fun y=> .int (f y:Int))),x2,x3,x4]
theorem zl{ks:List Cell}{x:Cell}:x∈bW ks x:=gU.mpr (.inr rfl)
theorem G9{R W:Nat}(hm:R*W≤64){Ps:List (List Cell)}{i:Nat}{P:List Cell}(hP:Ps[i]? =some P){x3:Option Sl}(nL:∀y∈P,On R W y):∀(l ks:List Cell) (f:Cell→Nat),(∀y∈l,y∈P)→NumOk R W Ps ks f→
 ∃ks' f',NumOk R W Ps ks' f'∧(∀y∈ks,y∈ks')∧(∀y∈l,y∈ks')∧forL (putN 4) PB (l.map cD) (G8 Ps ks f (fz (.int (i:Int))) x3 none)=M.ret (.nx (G8 Ps ks' f' (fz (.int (i:Int))) x3 none))
 |[],ks,f,_,h=>⟨ks,f,h,fun y hy=>hy,(fun y hy=>(by cases hy)),rfl⟩
 |x::l,ks,f,hl,h=>by
  have hx:=hl x (List.mem_cons_self ..)
  have QR:ks.length≤64:=by
   have h1:=ki h.nd fun y hy=>aM.mpr (h.on y hy)
   rw[dg] at h1
   omega
  have h1:NumOk R W Ps (bW ks x) (fun y=>if y=x then i else f y):=by
   refine⟨(lX [x] ks).1 h.nd,fun y hy=>?_,fun y hy=>?_⟩
   ·rcases gU.mp hy with q | q
    ·exact h.on y q
    ·rw[q];exact nL x hx
   ·by_cases e:y=x
    ·refine⟨P,?_,by rw[e];exact hx⟩
     show Ps[if y=x then i else f y]? =_
     rw[if_pos e];exact hP
    ·rcases gU.mp hy with q | q
     ·obtain⟨Q,q1,q2⟩:=h.num y q
      refine⟨Q,?_,q2⟩
      show Ps[if y=x then i else f y]? =_
      rw[if_neg e];exact q1
     ·exact absurd q e
  obtain⟨ks',f',a1,a2,a3,a4⟩:=G9 hm hP nL l (bW ks x) _ (fun y hy=>hl y (List.mem_cons_of_mem _ hy)) h1
  refine⟨ks',f',a1,fun y hy=>a2 y (gU.mpr (.inl hy)),fun y hy=>?_,?_⟩
  ·rcases List.mem_cons.mp hy with rfl | hy
   ·exact a2 _ zl
   ·exact a3 y hy
  ·refine(b_ (ρ1:=G8 Ps ks f (fz (.int (i:Int))) x3 (fz (cD x))) rfl ?_).trans a4
   refine(bD ((F9 (ks:=ks) (f:=fun y=> .int (f y:Int)) (x:=x) (d:= .int (i:Int)) rfl rfl rfl (by rw[cN];omega)).trans rfl)).trans ?_
   have ef:fj (fun y=>D.int (f y:Int)) x (.int (i:Int))=fun y=>D.int ((if y=x then i else f y:Nat):Int):=by
    funext y
    unfold fj
    by_cases e:y=x
    ·rw[if_pos e,if_pos e]
    ·rw[if_neg e,if_neg e]
   show M.ret (Out.nx [fz (.lst (Ps.map cL)),some (.ow (GG (bW ks x) (fj (fun y=>D.int (f y:Int)) x (.int (i:Int))))),fz (.int (i:Int)),x3,none])=_
   rw[ef]
   rfl
def JN(q:Nat×List Cell):D:= .tup [.int (q.1:Int),cL q.2]
theorem CP{R W:Nat}(hm:R*W≤64){Ps:List (List Cell)}(nL:∀P∈Ps,∀y∈P,On R W y):∀(qs:List (Nat×List Cell)) (ks:List Cell) (f:Cell→Nat),(∀q∈qs,Ps[q.1]? =some q.2)→NumOk R W Ps ks f→
 ∃ks' f',NumOk R W Ps ks' f'∧(∀y∈ks,y∈ks')∧(∀q∈qs,∀y∈q.2,y∈ks')∧forL (qV [2,3]) (cH [2,3,4] (dH (putN 4) (cE (dV 3)) PB)) (qs.map JN) (G8 Ps ks f none none none)=M.ret (.nx (G8 Ps ks' f' none none none))
 |[],ks,f,_,h=>⟨ks,f,h,fun y hy=>hy,(fun q hq=>(by cases hq)),rfl⟩
 |q::qs,ks,f,hq,h=>by
  have hP:=hq q (List.mem_cons_self ..)
  obtain⟨N1,f1,a1,a2,a3,a4⟩:=G9 hm hP (x3:=fz (cL q.2)) (nL q.2 (List.mem_of_getElem? hP)) q.2 ks f (fun y hy=>hy) h
  obtain⟨N2,f2,b1,b2,b3,b4⟩:=CP hm nL qs N1 f1 (fun q' KW=>hq q' (List.mem_cons_of_mem _ KW)) a1
  refine⟨N2,f2,b1,fun y hy=>b2 y (a2 y hy),fun q' KW y hy=>?_,?_⟩
  ·rcases List.mem_cons.mp KW with rfl | KW
   ·exact b2 y (a3 y hy)
   ·exact b3 q' KW y hy
  ·exact(b_ (ρ1:=G8 Ps ks f (fz (.int (q.1:Int))) (fz (cL q.2)) none) rfl ((bD (e9 (ds:=q.2.map cD) (JU rfl) a4)).trans rfl)).trans b4
theorem qB(Ps:List (List Cell)):(Ps.map cL).mapIdx (fun i d=>D.tup [.int (i:Int),d])=(Ps.zipIdx.map fun q:List Cell×Nat=>(q.2,q.1)).map JN:=by
 apply List.ext_getElem?
 intro i
 simp only[List.getElem?_mapIdx,List.getElem?_map,List.getElem?_zipIdx,Option.map_map,Nat.zero_add]
 cases Ps[i]? <;>simp[JN]
theorem ot{R W:Nat}(hm:R*W≤64){Ps:List (List Cell)}(nL:∀P∈Ps,∀y∈P,On R W y):∃ks f,NumOk R W Ps ks f∧(∀P∈Ps,∀y∈P,y∈ks)∧eD [.lst (Ps.map cL)]=M.ret (zJ ks fun y=> .int (f y:Int)):=by
 have hq:∀q∈Ps.zipIdx.map (fun q:List Cell×Nat=>(q.2,q.1)),Ps[q.1]? =some q.2:=fun q hq=>by
  obtain⟨⟨P,i⟩,h1,rfl⟩:=List.mem_map.mp hq
  exact List.mem_zipIdx_iff_getElem?.mp h1
 obtain⟨ks,f,a1,a2,a3,a4⟩:=CP hm nL (Ps.zipIdx.map fun q:List Cell×Nat=>(q.2,q.1)) [] (fun _=>0) hq ⟨List.nodup_nil,(fun y hy=>(by cases hy)),(fun y hy=>(by cases hy))⟩
 refine⟨ks,f,a1,fun P hP y hy=>?_,?_⟩
 ·obtain⟨i,hi,rfl⟩:=List.getElem_of_mem hP
  refine a3 (i,Ps[i]) (List.mem_map.mpr ⟨(Ps[i],i),List.mem_zipIdx_iff_getElem?.mpr (by rw[List.getElem?_eq_getElem hi]),rfl⟩) y hy
 ·refine aU (aj (ρ':=G8 Ps [] (fun _=>0) none none none) rfl (aj (ρ':=G8 Ps ks f none none none) (eF (e9 (ds:=(Ps.zipIdx.map fun q:List Cell×Nat=>(q.2,q.1)).map JN) ?_ a4)) rfl))
  show M.ret ((Ps.map cL).mapIdx fun i d=>D.tup [.int (i:Int),d])=_
  rw[qB]
theorem uh{α β:Type}(g:α→β):∀l:List α,(l.flatMap fun r=>[g r])=l.map g
 |[]=>rfl
 |a::l=>by rw[List.flatMap_cons,uh g l];rfl
section
open Classical
variable{bd:List Str}{W w:Nat}
noncomputable def aw(bd:List Str)(W w:Nat):List (List Cell):=(aW bd W w (ax bd.length W)).map (aI bd W w)
theorem jG:kz bd W w= .lst ((aw bd W w).map cL):=by
 unfold kz aw
 rw[List.map_map]
 rfl
theorem cf{m:Cell}(h:m∈aW bd W w (ax bd.length W)):On bd.length W m:=by
 unfold aW at h
 exact aM.mp (List.mem_filter.mp h).1
theorem ly(hw:Ways w):∀P∈aw bd W w,∀y∈P,On bd.length W y:=fun P hP y hy=>by
 unfold aw at hP
 obtain⟨m,hm,rfl⟩:=List.mem_map.mp hP
 exact(((a_ hw (cf hm)).mem y).mp hy).on hw (cf hm)
theorem gx(hg:Brd bd W)(hw:Ways w){x:Cell}(hx:On bd.length W x):∃P∈aw bd W w,x∈P:=by
 obtain⟨L,hL⟩:=qx (bd:=bd) (W:=W) hw
 have hm:=hL x hx
 have yu:=hm.on hw hx
 refine⟨aI bd W w (L x),List.mem_map.mpr ⟨L x,?_,rfl⟩,((a_ hw yu).mem x).mpr (hm.1.symm hw hx)⟩
 unfold aW
 rw[List.mem_filter,decide_eq_true_eq]
 exact⟨aM.mpr yu,hm.self hw hx⟩
theorem jE:(aw bd W w).length≤bd.length*W:=by
 unfold aw aW
 rw[List.length_map,←dg bd.length W]
 exact List.length_filter_le ..
theorem il(hg:Brd bd W)(hs:bd.length*W<64)(hw:Ways w):cI [brd bd, .int (w:Int)]=M.ret (.lst ((aw bd W w).map cL)):=by
 rw[←jG]
 exact aU (aj (bu ((ao (ds:=[brd bd]) rfl rfl).trans hg.nb)) (aj (bu ((ao (ds:=[.int (w:Int)]) rfl rfl).trans hw.nw)) (aH ((ao (ds:=[brd bd, .int (w:Int)]) rfl rfl).trans (et hg hs hw)))))
theorem gn(hg:Brd bd W)(hs:bd.length*W<64)(hw:Ways w):cF [brd bd, .int (w:Int)]=M.ret (.int ((aw bd W w).length:Int)):=by
 refine aU (aj (bu ((ao (ds:=[brd bd]) rfl rfl).trans hg.nb)) (aj (bu ((ao (ds:=[.int (w:Int)]) rfl rfl).trans hw.nw)) (aH ((cC (xs:=[kz bd W w]) (aS ((ao (ds:=[brd bd, .int (w:Int)]) rfl rfl).trans (et hg hs hw)) rfl)).trans ?_))))
 rw[jG]
 show M.ret (D.int (((aw bd W w).map cL).length:Int))=_
 rw[List.length_map]
theorem sq(hg:Brd bd W)(hs:bd.length*W<64)(hw:Ways w):∃f:Cell→Nat,(∀x,On bd.length W x→∃P,(aw bd W w)[f x]? =some P∧x∈P)∧
 dW [brd bd, .int (w:Int)]=M.ret (.lst ((List.range bd.length).map fun r=> .lst ((cy W r).map fun y=> .int (f y:Int)))):=by
 obtain⟨ks,f,a1,a2,a3⟩:=ot (R:=bd.length) (W:=W) (by omega) (ly (bd:=bd) hw)
 have Bi:∀x,On bd.length W x→x∈ks:=fun x hx=>by
  obtain⟨P,hP,h⟩:=gx hg hw hx
  exact a2 P hP x h
 refine⟨f,fun x hx=>a1.num x (Bi x hx),?_⟩
 have h8:=hg.r8
 have w8:=hg.w8
 have e:=gY (put:=putN 4) (body:=cH [4] (mN 3 (aJ 0 (cE (ai 2 aV (aC (dV 0) (aC (dV 4) aN)))) aP (d2 k7 (dV 3) (dV 0))))) (fun (k:Nat)=>D.int (k:Int)) (fun acc=>[fz (brd bd),fz (.int (w:Int)),fz (zJ ks fun y=> .int (f y:Int)),some (.ow (.lst acc)),none]) (fun r=>[D.lst ((cy W r).map fun y=> .int (f y:Int))]) (B:=64) (List.range bd.length) []
  (by
   rw[List.nil_append]
   have:=uD (n:=1) (fun r=>[D.lst ((cy W r).map fun y=> .int (f y:Int))]) (fun r=>by simp) (List.range bd.length)
   rw[List.length_range] at this
   omega) fun r hr acc hB=>by
   refine⟨[fz (brd bd),fz (.int (w:Int)),fz (zJ ks fun y=> .int (f y:Int)),some (.ow (.lst acc)),fz (.int (r:Int))],rfl,?_⟩
   have hc:aJ 0 (cE (ai 2 aV (aC (dV 0) (aC (dV 4) aN)))) aP (d2 k7 (dV 3) (dV 0)) [fz (brd bd),fz (.int (w:Int)),fz (zJ ks fun y=> .int (f y:Int)),some (.ow (.lst acc)),fz (.int (r:Int))]=M.ret (.lst ((cy W r).map fun y=> .int (f y:Int))):=by
    refine aX (ds:=(cy W r).map cD) (Ir ((ao (ds:=[brd bd, .int (r:Int)]) rfl rfl).trans (fN hg r))) (cB cD (fun y=> .int (f y:Int)) _ fun y hy=>?_) (by simp[cy,cN];omega)
    have Rl:On bd.length W y:=by
     obtain⟨k,hk,rfl⟩:=List.mem_map.mp hy
     exact⟨List.mem_range.mp hr,List.mem_range.mp hk⟩
    rw[dS]
    have:d2 k7 (dV 3) (dV 0) [fz (cD y),fz (brd bd),fz (.int (w:Int)),fz (zJ ks fun y=> .int (f y:Int)),some (.ow (.lst acc)),fz (.int (r:Int))]=M.ret (.int (f y:Int)):=(bo (x:=zJ ks fun y=> .int (f y:Int)) (y:=cD y) rfl rfl).trans (Iu (f:=fun y=> .int (f y:Int)) (Bi y Rl))
    rw[this]
    rfl
   refine(bD (ρ':=[fz (brd bd),fz (.int (w:Int)),fz (zJ ks fun y=> .int (f y:Int)),some (.ow (.lst (acc++[.lst ((cy W r).map fun y=> .int (f y:Int))]))),fz (.int (r:Int))]) ?_).trans rfl
   show (aJ 0 (cE (ai 2 aV (aC (dV 0) (aC (dV 4) aN)))) aP (d2 k7 (dV 3) (dV 0)) [fz (brd bd),fz (.int (w:Int)),fz (zJ ks fun y=> .int (f y:Int)),some (.ow (.lst acc)),fz (.int (r:Int))]>>=fun d=>if acc.length<lim then M.ret (Out.nx [fz (brd bd),fz (.int (w:Int)),fz (zJ ks fun y=> .int (f y:Int)),some (.ow (.lst (acc++[d]))),fz (.int (r:Int))]) else M.stuck)=_
   rw[hc,ak,if_pos (by rw[List.length_append] at hB;rw[cN];simp at hB;omega)]
 rw[List.nil_append,show ((List.range bd.length).flatMap fun r=>[D.lst ((cy W r).map fun y=> .int (f y:Int))])=(List.range bd.length).map (fun r=>D.lst ((cy W r).map fun y=> .int (f y:Int))) from uh _ _] at e
 refine aU (aj (bu ((ao (ds:=[brd bd]) rfl rfl).trans hg.nb)) (aj (bu ((ao (ds:=[.int (w:Int)]) rfl rfl).trans hw.nw)) (aj (ρ':=[fz (brd bd),fz (.int (w:Int)),fz (zJ ks fun y=> .int (f y:Int)),none,none]) ((aR (d:=zJ ks fun y=> .int (f y:Int)) ((ao (ds:=[.lst ((aw bd W w).map cL)]) (aS ((ao (ds:=[brd bd, .int (w:Int)]) rfl rfl).trans ((et hg hs hw).trans (by rw[jG]))) rfl) rfl).trans a3)).trans rfl) (aj (ρ':=[fz (brd bd),fz (.int (w:Int)),fz (zJ ks fun y=> .int (f y:Int)),some (.ow (.lst [])),none]) rfl (aj (eF (e9 (Gb (n:=bd.length) (IH rfl) (by omega)) e)) rfl)))))
end
end K1
namespace K1
open PySem L2 L3 HT
def mU(l:List Nat):Str:=⟨l.toArray⟩
theorem cV(l:List Nat):(mU l).cps.toList=l:=by simp[mU]
theorem yI(l:List Nat):(mU l).length=l.length:=by simp[mU,Str.length]
theorem m7(x y:Str):(x++y).cps.toList=x.cps.toList++y.cps.toList:=by
 show (x.cps++y.cps).toList=_
 simp
theorem Kc(ds:List D)(d:D):cutD (ds++[d]) none (some (-1))=ds:=by
 unfold cutD
 have e:sIx (ds++[d]).length (ds++[d]).length (some (-1))=ds.length:=by
  show (if (-1:Int)<0 then((-1:Int)+((ds++[d]).length:Int)).toNat else min (-1:Int).toNat (ds++[d]).length)=_
  rw[if_pos (by decide),List.length_append]
  simp
  omega
 rw[e,sIx_none]
 simp
theorem yB(ds:List D)(d:D):dq (.lst (ds++[d])) (.int (-1))=M.ret d:=by
 show (match L2.atI (ds++[d]) (-1) with | some d=>M.ret d | none=>M.stuck)=_
 have e:L2.atI (ds++[d]) (-1)=some d:=by
  unfold L2.atI Cw
  rw[if_neg (by decide),if_pos (by simp;omega)]
  show (ds++[d])[((-1:Int)+((ds++[d]).length:Int)).toNat]? =_
  have:((-1:Int)+((ds++[d]).length:Int)).toNat=ds.length:=by simp;omega
  rw[this]
  simp
 rw[e]
def mapR(g:Nat→Nat)(r:Str):Str:=mU (r.cps.toList.map g)
theorem tL:∀l:List Nat,fL (l.map sg)=some (l.map fun c=>(⟨#[c]⟩:Str))
 |[]=>rfl
 |c::r=>by
  show (fL (r.map sg)).map _=_
  rw[tL r]
  rfl
theorem yj:∀l:List Nat,c7 (l.map fun c=>(⟨#[c]⟩:Str))=mU l
 |[]=>rfl
 |c::r=>by
  refine zf ?_
  show ((⟨#[c]⟩:Str)++c7 (r.map fun c=>(⟨#[c]⟩:Str))).cps.toList=_
  rw[m7,yj r,cV,cV]
  rfl
theorem Ea:∀l:List Nat,((l.map fun c=>(⟨#[c]⟩:Str)).map (·.length)).sum=l.length
 |[]=>rfl
 |c::r=>by
  show 1+((r.map fun c=>(⟨#[c]⟩:Str)).map (·.length)).sum=_
  rw[Ea r,List.length_cons]
  omega
theorem yD{l:List Nat}(h:l.length≤4096):joinM (.str "") [.lst (l.map sg)]=M.ret (.str (mU l)):=by
 show (match fL (l.map sg) with | some (xs:List Str)=>if ("":Str).length=0∧(xs.map fun x:Str=>x.length).sum≤lim then M.ret (D.str (c7 xs)) else M.stuck | none=>M.stuck)=_
 rw[tL]
 show (if ("":Str).length=0∧((l.map fun c=>(⟨#[c]⟩:Str)).map fun x:Str=>x.length).sum≤lim then M.ret (D.str (c7 (l.map fun c=>(⟨#[c]⟩:Str)))) else M.stuck)=_
 rw[if_pos ⟨rfl,by have:=Ea l;rw[cN];exact Nat.le_trans (Nat.le_of_eq this) h⟩,yj]
theorem Cy{i:Nat}{δ:DE}{ρ:a9}{r:Str}{g:Nat→Nat}(h0:ρ[i]? =some (fz (.str r)))(hl:r.length≤4096)(hd:∀c∈r.cps.toList,δ (fz (sg c)::ρ)=M.ret (sg (g c))):
 dM nQ joinM (dC (.str "")) (aC (aJ 0 (fun ρ=>(dV i) ρ>>=o7) aP δ) aN) ρ=M.ret (.str (mapR g r)):=by
 have wH:r.cps.toList.length≤4096:=hl
 have cm:aJ 0 (fun ρ=>(dV i) ρ>>=o7) aP δ ρ=M.ret (.lst ((r.cps.toList.map g).map sg)):=by
  refine aX (ds:=r.cps.toList.map sg) ?_ ?_ (by rw[List.length_map,List.length_map,cN];exact wH)
  ·show (dV i ρ>>=o7)=_
   rw[dU h0]
   rfl
  ·have:∀(l:List Nat),(∀c∈l,δ (fz (sg c)::ρ)=M.ret (sg (g c)))→cP (eO 0 aP δ ρ) (l.map sg)=M.ret ((l.map g).map sg):=by
    intro l
    induction l with
    |nil=>exact fun _=>rfl
    |cons c l ih=>
     intro h
     rw[List.map_cons,cQ,dS,h c (List.mem_cons_self ..),ih fun x hx=>h x (List.mem_cons_of_mem _ hx)]
     rfl
   exact this _ hd
 show (if nQ (.str "") then((aC _ aN) ρ>>=fun ds=>joinM (.str "") ds) else M.stuck)=_
 rw[if_pos (show nQ (.str "")=true from rfl),aS cm (xs:=[]) rfl,ak]
 exact yD (by rw[List.length_map];exact wH)
theorem r0(c:Nat):E9 ⟨#[c]⟩=decide (c∈[97,98,99,100,101,102]):=StrLaws.found_one "abcdef" c
theorem Ik(l:List Nat)(c:Nat)(neg:Bool):pL neg (sg c) (.str (mU l))=M.ret (.bl (if neg then !decide (c∈l) else decide (c∈l))):=by
 have:=StrLaws.found_one (mU l) c
 rw[cV] at this
 show M.ret (D.bl (if neg then !(!(Builtin.Str.occurrences (mU l) ⟨#[c]⟩ 0 (mU l).length 1).isEmpty) else !(Builtin.Str.occurrences (mU l) ⟨#[c]⟩ 0 (mU l).length 1).isEmpty))=_
 rw[this]
abbrev Bq:List Nat:=[97,98,99,100,101,102]
theorem Ge{W:Nat}{r:Str}(h:Row W r){c:Nat}(hc:c∈r.cps.toList):c∈[97,98,99,100,101,102]:=by
 have:=h.let' c hc
 rw[r0] at this
 exact of_decide_eq_true this
def cz(bd:List Str):List Nat:=(bd.map (·.cps.toList)).flatten
theorem Fh{bd:List Str}{W:Nat}(hg:Brd bd W){i:Nat}{ρ:a9}(h0:ρ[i]? =some (fz (brd bd))):dM nQ joinM (dC (.str "")) (aC (dV i) aN) ρ=M.ret (.str (mU (cz bd))):=by
 have h8:=hg.r8
 have w8:=hg.w8
 show (if nQ (.str "") then((aC (dV i) aN) ρ>>=fun ds=>joinM (.str "") ds) else M.stuck)=_
 rw[if_pos (show nQ (.str "")=true from rfl),aS (dU h0) (xs:=[]) rfl,ak]
 show (match fL (bd.map D.str) with | some (xs:List Str)=>if ("":Str).length=0∧(xs.map fun x:Str=>x.length).sum≤lim then M.ret (D.str (c7 xs)) else M.stuck | none=>M.stuck)=_
 have e1:∀xs:List Str,fL (xs.map D.str)=some xs:=by
  intro xs
  induction xs with
  |nil=>rfl
  |cons x r ih=>show (fL (r.map D.str)).map _=_;rw[ih];rfl
 rw[e1]
 have e2:∀xs:List Str,(c7 xs).cps.toList=(xs.map (·.cps.toList)).flatten:=by
  intro xs
  induction xs with
  |nil=>rfl
  |cons x r ih=>show (x++c7 r).cps.toList=_;rw[m7,ih];rfl
 have e3:∀xs:List Str,(∀x∈xs,x.length≤8)→(xs.map fun x:Str=>x.length).sum≤xs.length*8:=by
  intro xs
  induction xs with
  |nil=>exact fun _=>Nat.zero_le _
  |cons x r ih=>
   intro h
   have:=ih fun y hy=>h y (List.mem_cons_of_mem _ hy)
   have:=h x (List.mem_cons_self ..)
   rw[List.map_cons,List.sum_cons,List.length_cons,Nat.add_mul]
   omega
 have e4:=e3 bd fun x hx=>by rw[(hg.rows x hx).len];exact w8
 show (if ("":Str).length=0∧(bd.map fun x:Str=>x.length).sum≤lim then M.ret (D.str (c7 bd)) else M.stuck)=_
 rw[if_pos ⟨rfl,by rw[cN];omega⟩]
 congr 2
 refine zf ?_
 rw[e2,cV]
 rfl
theorem j6{bd:List Str}{c:Nat}:c∈cz bd↔∃r∈bd,c∈r.cps.toList:=by
 unfold cz
 rw[List.mem_flatten]
 constructor
 ·rintro⟨l,hl,h⟩
  obtain⟨r,hr,rfl⟩:=List.mem_map.mp hl
  exact⟨r,hr,h⟩
 ·rintro⟨r,hr,h⟩
  exact⟨_,List.mem_map.mpr ⟨r,hr,rfl⟩,h⟩
theorem mZ{bd:List Str}{W:Nat}(hg:Brd bd W){c:Nat}(h:c∈cz bd):c∈Bq:=by
 obtain⟨r,hr,h⟩:=j6.mp h
 exact Ge (hg.rows r hr) h
theorem se{bd:List Str}{W:Nat}(hg:Brd bd W){c:Cell}(hc:On bd.length W c):lt bd c∈cz bd:=by
 have h1:c.1<bd.length:=hc.1
 have hr:(bd.getD c.1 ⟨#[]⟩).cps.toList.length=W:=(hg.rows _ (getD_mem h1)).len
 have h2:c.2<(bd.getD c.1 ⟨#[]⟩).cps.toList.length:=by rw[hr];exact hc.2
 refine j6.mpr ⟨_,getD_mem h1,?_⟩
 show ch (bd.getD c.1 ⟨#[]⟩) c.2∈_
 generalize bd.getD c.1 ⟨#[]⟩=r at h2
 unfold ch
 rw[List.getD_eq_getElem?_getD,List.getElem?_eq_getElem h2]
 exact List.getElem_mem h2
theorem rA{bd:List Str}{i j:Nat}(hi:i<bd.length)(hj:j<bd[i].cps.toList.length):at2 bd i j=bd[i].cps.toList[j]:=by
 unfold at2 ch
 rw[List.getD_eq_getElem?_getD (l:=bd),List.getElem?_eq_getElem hi,Option.getD_some,List.getD_eq_getElem?_getD,List.getElem?_eq_getElem hj,Option.getD_some]
theorem wC{α:Type}{l:List α}{i:Nat}{x:α}(h:l[i]? =some x)(hi:i<l.length):l[i]=x:=by
 rw[List.getElem?_eq_getElem hi] at h
 exact Option.some.inj h
def eX(bd:List Str):List Str:=bd.map sZ
theorem sk{bd:List Str}{W:Nat}(hg:Brd bd W):cS [brd bd]=M.ret (brd (eX bd)):=by
 refine aU (aj (bu ((ao (ds:=[brd bd]) rfl rfl).trans hg.nb)) (aH ?_))
 refine(cC (xs:=[.lst ((eX bd).map D.str)]) (aS (aX (Pu (i:=0) rfl) (ys:=(eX bd).map D.str) ?_ (by unfold eX;rw[List.length_map,List.length_map,cN];have:=hg.r8;omega)) rfl)).trans rfl
 unfold eX
 rw[List.map_map]
 have:∀l:List Str,cP (eO 0 aP (rL (dV 0) (d1 h7 (dC (.int 1)))) [fz (brd bd)]) (l.map D.str)=M.ret (l.map (D.str∘sZ)):=by
  intro l
  induction l with
  |nil=>rfl
  |cons r l ih=>rw[List.map_cons,cQ,dS,ih];rfl
 exact this bd
theorem Ah{bd:List Str}{W:Nat}(hG:Good bd W):Good (eX bd) W:=by
 refine⟨by unfold eX;rw[List.length_map];exact hG.r1,by unfold eX;rw[List.length_map];exact hG.r5,hG.w1,hG.w5,fun r hr=>?_⟩
 obtain⟨q,hq,rfl⟩:=List.mem_map.mp hr
 refine⟨by rw[oY];exact(hG.rows q hq).len,fun c hc=>(hG.rows q hq).let' c ?_⟩
 unfold sZ at hc
 simpa using hc
theorem yK{bd:List Str}{W i j:Nat}(hr:∀r∈bd,r.length=W)(hi:i<bd.length)(hj:j<W):at2 (eX bd) i j=at2 bd i (W - 1 - j):=by
 have hw:bd[i].cps.toList.length=W:=hr _ (List.getElem_mem hi)
 have h1:i<(eX bd).length:=by unfold eX;rw[List.length_map];exact hi
 have e0:(eX bd)[i]? =some (sZ bd[i]):=by
  unfold eX
  rw[List.getElem?_map,List.getElem?_eq_getElem hi]
  rfl
 have e1:(eX bd)[i].cps.toList=bd[i].cps.toList.reverse:=by
  rw[wC e0 h1]
  unfold sZ
  simp
 have h2:j<(eX bd)[i].cps.toList.length:=by rw[e1,List.length_reverse,hw];exact hj
 rw[rA h1 h2,rA hi (by rw[hw];omega)]
 have:(eX bd)[i].cps.toList[j]? =bd[i].cps.toList[W - 1 - j]? :=by rw[e1,List.getElem?_reverse (by rw[hw];exact hj),hw]
 rw[List.getElem?_eq_getElem h2,List.getElem?_eq_getElem (by rw[hw];omega)] at this
 exact Option.some.inj this
def Ai(R W:Nat)(g:Nat→Nat→Nat):List Str:=(List.range R).map fun i=>mU ((List.range W).map (g i))
theorem j8(R W:Nat)(g:Nat→Nat→Nat):(Ai R W g).length=R:=by simp[Ai]
theorem Fq{R W:Nat}{g:Nat→Nat→Nat}:∀r∈Ai R W g,r.length=W:=fun r hr=>by
 obtain⟨i,_,rfl⟩:=List.mem_map.mp hr
 rw[yI,List.length_map,List.length_range]
theorem II{R W:Nat}{g:Nat→Nat→Nat}{i j:Nat}(hi:i<R)(hj:j<W):at2 (Ai R W g) i j=g i j:=by
 have h1:i<(Ai R W g).length:=by rw[j8];exact hi
 have e0:(Ai R W g)[i]? =some (mU ((List.range W).map (g i))):=by
  unfold Ai
  rw[List.getElem?_map,List.getElem?_range hi]
  rfl
 have e1:(Ai R W g)[i].cps.toList=(List.range W).map (g i):=by rw[wC e0 h1,cV]
 have h2:j<(Ai R W g)[i].cps.toList.length:=by rw[e1,List.length_map,List.length_range];exact hj
 rw[rA h1 h2]
 have:(Ai R W g)[i].cps.toList[j]? =some (g i j):=by rw[e1,List.getElem?_map,List.getElem?_range hj];rfl
 exact wC this h2
theorem CK{R W:Nat}{g:Nat→Nat→Nat}(r1:1≤R)(r5:R≤5)(w1:1≤W)(w5:W≤5)(h:∀i j,i<R→j<W→g i j∈Bq):Good (Ai R W g) W:=by
 refine⟨by rw[j8];exact r1,by rw[j8];exact r5,w1,w5,fun r hr=>⟨Fq r hr,fun c hc=>?_⟩⟩
 obtain⟨i,hi,rfl⟩:=List.mem_map.mp hr
 rw[cV] at hc
 obtain⟨j,hj,rfl⟩:=List.mem_map.mp hc
 exact(r0 _).trans (decide_eq_true (h i j (List.mem_range.mp hi) (List.mem_range.mp hj)))
theorem EH{bd:List Str}{W i j:Nat}(hg:Brd bd W)(hi:i<bd.length)(hj:j<W):at2 bd i j∈Bq:=mZ hg (se (c:=(i,j)) hg ⟨hi,hj⟩)
def turn(bd:List Str)(W:Nat):List Str:=Ai W bd.length fun i j=>at2 bd (bd.length - 1 - j) i
theorem wm{bd:List Str}{W:Nat}(hg:Brd bd W){k:Nat}(hk:k<W):bE [brd bd, .int (k:Int)]=M.ret (.str (mU ((List.range bd.length).map fun j=>at2 bd (bd.length - 1 - j) k))):=by
 have h8:=hg.r8
 have cm:aJ 0 (fun ρ=>(aC (dV 0) aN) ρ>>=DK) aP (d2 mJ (dV 0) (dV 2)) [fz (brd bd),fz (.int (k:Int))]=M.ret (.lst (((List.range bd.length).map fun j=>at2 bd (bd.length - 1 - j) k).map sg)):=by
  have e0:bd.reverse=(List.range bd.length).map fun j=>bd.getD (bd.length - 1 - j) ⟨#[]⟩:=by
   refine List.ext_getElem (by simp) fun i h1 h2=>?_
   have hi:i<bd.length:=by simpa using h1
   rw[List.getElem_map,List.getElem_range,List.getElem_reverse,List.getD_eq_getElem?_getD,List.getElem?_eq_getElem (by omega)]
   rfl
  refine aX (ds:=bd.reverse.map D.str) ?_ ?_ (by simp[cN];omega)
  ·show M.ret ((bd.map D.str).reverse)=_
   rw[List.map_reverse]
  ·rw[e0,List.map_map,List.map_map]
   refine cB (D.str∘fun j=>bd.getD (bd.length - 1 - j) ⟨#[]⟩) _ _ fun j hj=>?_
   have hj:=List.mem_range.mp hj
   have hl:k<(bd.getD (bd.length - 1 - j) ⟨#[]⟩).length:=by rw[(hg.rows _ (getD_mem (by omega))).len];exact hk
   rw[dS]
   show (mJ (.str (bd.getD (bd.length - 1 - j) ⟨#[]⟩)) (.int (k:Int))>>=fun y=>M.ret (some y))=_
   rw[zc hl]
   rfl
 refine aU (aH ?_)
 show (if nQ (.str "") then((aC _ aN) [fz (brd bd),fz (.int (k:Int))]>>=fun ds=>joinM (.str "") ds) else M.stuck)=_
 rw[if_pos (show nQ (.str "")=true from rfl),aS cm (xs:=[]) rfl,ak]
 exact yD (by simp;omega)
theorem xS{bd:List Str}{W:Nat}(hg:Brd bd W):el [brd bd]=M.ret (brd (turn bd W)):=by
 have w8:=hg.w8
 refine aU (aj (bu ((ao (ds:=[brd bd]) rfl rfl).trans hg.nb)) (aH ?_))
 refine(cC (xs:=[.lst ((turn bd W).map D.str)]) (aS (aX (Gb (n:=W) (hg.len0 (i:=0) rfl) (by omega)) (ys:=(turn bd W).map D.str) ?_ (by rw[List.length_map];unfold turn;rw[j8,cN];omega)) rfl)).trans rfl
 unfold turn Ai
 rw[List.map_map]
 refine cB (fun (k:Nat)=>D.int (k:Int)) _ _ fun k hk=>?_
 rw[dS,(ao (ds:=[brd bd, .int (k:Int)]) rfl rfl:ai 2 bE (aC (dV 1) (aC (dV 0) aN)) _=_),wm hg (List.mem_range.mp hk)]
 rfl
theorem AX{bd:List Str}{W:Nat}(hG:Good bd W):Good (turn bd W) bd.length:=CK hG.w1 hG.w5 hG.r1 hG.r5 fun i j hi hj=>EH hG.brd (by omega) hi
theorem kK(bd:List Str)(W:Nat):(turn bd W).length=W:=j8 ..
theorem zg{bd:List Str}{W i j:Nat}(hi:i<W)(hj:j<bd.length):at2 (turn bd W) i j=at2 bd (bd.length - 1 - j) i:=II hi hj
theorem j7(bd:List Str):(eX bd).length=bd.length:=List.length_map ..
theorem kW(x:Str)(c:Nat):∀(n a:Nat) (st:Array Nat×Nat),a+n≤x.length+1→st.snd≤a→st.fst.size≤a→
 (forIn (List.range' a n) st (StrLaws.occBody x ⟨#[c]⟩ x.length (x.length+1))).run.fst.size=st.fst.size+((List.range' a n).filter fun i=>decide (x.cps.toList[i]? =some c)).length
 |0,a,st,_,_,_=>rfl
 |n+1,a,st,h1,h2,h3=>by
  rw[List.range'_succ,List.forIn_cons,List.filter_cons]
  have key:=StrLaws.subAt_one x c a
  unfold StrLaws.occBody
  by_cases hc:x.cps.toList[a]? =some c
  ·have k:=key.mpr hc
   rw[if_pos ⟨⟨⟨by omega,h2⟩,k.1⟩,k.2⟩,if_pos (decide_eq_true hc)]
   have ih:=kW x c n (a+1) (st.fst.push a,a+(⟨#[c]⟩:Str).length) (by omega) (Nat.le_refl _) (by simp;omega)
   refine Eq.trans ih ?_
   simp
   omega
  ·rw[if_neg (fun z=>hc (key.mp ⟨z.1.2,z.2⟩)),if_neg (by simpa using hc)]
   exact kW x c n (a+1) (st.fst,st.snd) (by omega) (by show st.snd≤a+1;omega) (by show st.fst.size≤a+1;omega)
theorem rJ(c:Nat):∀l:List Nat,((List.range (l.length+1)).filter fun i=>decide (l[i]? =some c)).length=l.count c
 |[]=>by simp[List.range_succ]
 |a::l=>by
  rw[List.length_cons,List.range_succ_eq_map,List.filter_cons,List.filter_map]
  have e:((fun i=>decide ((a::l)[i]? =some c))∘Nat.succ)=fun i=>decide (l[i]? =some c):=by
   funext i
   simp
  rw[e]
  by_cases h:a=c
  ·subst h
   simp only[List.getElem?_cons_zero,decide_true,if_true,List.length_cons,List.length_map,rJ a l,List.count_cons_self]
  ·have h':¬(a==c)=true:=by simpa using h
   simp only[List.getElem?_cons_zero,Option.some.injEq,h,decide_false,Bool.false_eq_true,if_false,List.length_map,rJ c l]
   rw[List.count_cons_of_ne h]
theorem EL(x:Str)(c:Nat):(Builtin.Str.occurrences x ⟨#[c]⟩ 0 x.length (x.length+1)).length=x.cps.toList.count c:=by
 have k:=kW x c (x.length+1 - 0) 0 (#[],0) (by omega) (Nat.le_refl _) (Nat.le_refl _)
 rw[StrLaws.occ_eq,Array.length_toList,k,←rJ c x.cps.toList]
 show 0+_=_
 rw[Nat.zero_add,Array.length_toList,List.range_eq_range']
 rfl
def fG(s:List Nat):List Nat:=Bq.filter fun c=>decide (c∈s)
def Lv(s:List Nat)(c:Nat):D:= .tup [sg c, .int (s.count c:Int)]
theorem t8{α:Type}{f:D→M (Option D)}(enc:α→D)(p:α→Bool)(g:α→D):∀(xs:List α),(∀x∈xs,f (enc x)=M.ret (if p x then some (g x) else none))→cP f (xs.map enc)=M.ret ((xs.filter p).map g)
 |[],_=>rfl
 |x::xs,h=>by
  rw[List.map_cons,cQ,h x (List.mem_cons_self ..),ak,t8 enc p g xs fun y hy=>h y (List.mem_cons_of_mem _ hy),List.filter_cons]
  cases p x<;>rfl
theorem uG{bd:List Str}{W:Nat}(hg:Brd bd W):cX [brd bd]=M.ret (.lst ((fG (cz bd)).map (Lv (cz bd)))):=by
 refine aU (aj (ρ':=[fz (brd bd),none]) (bu ((ao (ds:=[brd bd]) rfl rfl).trans hg.nb)) (aj (ρ':=[fz (brd bd),fz (.str (mU (cz bd)))]) ((aR (Fh hg (i:=0) rfl)).trans rfl) (aH ?_)))
 refine aX (ds:=Bq.map sg) rfl (t8 sg (fun c=>decide (c∈cz bd)) (Lv (cz bd)) Bq fun c _=>?_) ?_
 ·rw[rK]
  have e1:dn (d2 (pL false) (dV 0) (dV 2)) [fz (sg c),fz (brd bd),fz (.str (mU (cz bd)))]=M.ret (decide (c∈cz bd)):=gT ((bo (x:=sg c) (y:= .str (mU (cz bd))) rfl rfl).trans (Ik _ _ false))
  have e2:dA dm (aC (dV 0) (aC (dM nQ t7 (dV 2) (aC (dV 0) aN)) aN)) [fz (sg c),fz (brd bd),fz (.str (mU (cz bd)))]=M.ret (Lv (cz bd) c):=by
   have e3:dM nQ t7 (dV 2) (aC (dV 0) aN) [fz (sg c),fz (brd bd),fz (.str (mU (cz bd)))]=M.ret (.int ((cz bd).count c:Int)):=by
    show M.ret (D.int ((BK (mU (cz bd)) ⟨#[c]⟩:Nat):Int))=_
    unfold BK
    rw[EL,cV]
   exact(cC (aS (x:=sg c) rfl (aS (xs:=[]) e3 rfl))).trans rfl
  rw[e1,e2]
  cases decide (c∈cz bd)<;>rfl
 ·rw[List.length_map,cN]
  exact Nat.le_trans (List.length_filter_le ..) (by decide)
end K1
namespace K1
open PySem PySem.Spec L2 L3
open PyProof.Rows hiding St
section
open Classical
variable{bd:List Str}{W w:Nat}
theorem sj:(aW bd W w (ax bd.length W)).Nodup:=by
 unfold aW
 exact(RiseC.nodup (cO _ _)).filter _
theorem Ag:RiseC (aW bd W w (ax bd.length W)):=by
 unfold aW
 exact(cO _ _).filter _
theorem uJ{l:List Cell}{m:Cell}:m∈aW bd W w l↔m∈l∧Least bd W w m m:=by
 unfold aW
 rw[List.mem_filter,decide_eq_true_eq]
theorem j3(hw:Ways w){m x:Cell}(hm:m∈aW bd W w (ax bd.length W))(hx:x∈aI bd W w m):Least bd W w x m:=
 (uJ.mp hm).2.move hw (cf hm) (((a_ hw (cf hm)).mem x).mp hx)
theorem lx{i:Nat}{P:List Cell}(h:(aw bd W w)[i]? =some P):∃m,(aW bd W w (ax bd.length W))[i]? =some m∧P=aI bd W w m:=by
 unfold aw at h
 rw[List.getElem?_map] at h
 cases q:(aW bd W w (ax bd.length W))[i]? with
 |none=>rw[q] at h;cases h
 |some m=>rw[q] at h;cases h;exact⟨m,rfl,rfl⟩
theorem CJ{i j:Nat}{m:Cell}(h:(aW bd W w (ax bd.length W))[i]? =some m)(h2:(aW bd W w (ax bd.length W))[j]? =some m):i=j:=
 (List.getElem?_inj (List.getElem?_eq_some_iff.mp h).1 sj).mp (h.trans h2.symm)
theorem sf{α:Type}{l:List α}{i:Nat}{x:α}(h:l[i]? =some x):x∈l:=List.mem_of_getElem? h
theorem E8(hw:Ways w){i j:Nat}{P Q:List Cell}{x:Cell}(hi:(aw bd W w)[i]? =some P)(hj:(aw bd W w)[j]? =some Q)(hx:x∈P)(hy:x∈Q):i=j:=by
 obtain⟨m,e1,rfl⟩:=lx hi
 obtain⟨n,e2,rfl⟩:=lx hj
 have hm:=sf e1
 have hn:=sf e2
 have nL:On bd.length W x:=(((a_ hw (cf hm)).mem x).mp hx).on hw (cf hm)
 have:=(j3 hw hm hx).one hw nL (j3 hw hn hy)
 subst this
 exact CJ e1 e2
theorem gy(hw:Ways w){m:Cell}(hm:m∈aW bd W w (ax bd.length W)):∃r,aI bd W w m=m::r:=by
 have ho:=cf hm
 have hP:=a_ hw ho
 cases hp:aI bd W w m with
 |nil=>have:=(hP.mem m).mpr Cn.refl;rw[hp] at this;cases this
 |cons a r=>
  refine⟨r,?_⟩
  rw[hp] at hP
  by_cases e:a=m
  ·rw[e]
  ·have qi:m∈a::r:=(hP.mem m).mpr Cn.refl
   have qi:m∈r:=by
    cases qi with
    |head=>exact absurd rfl e
    |tail _ q=>exact q
   have hc:=(hP.mem a).mp (List.mem_cons_self ..)
   have h1:=(fO (hc.on hw ho) ho).mp ((List.pairwise_cons.mp hP.rise).1 m qi)
   have:=(uJ.mp hm).2.2 a hc
   omega
theorem yp{f:Cell→List Cell}:∀l:List Cell,l.Nodup→(∀a∈l,(f a).Nodup)→(∀a∈l,∀b∈l,∀x,x∈f a→x∈f b→a=b)→(l.flatMap f).Nodup
 |[],_,_,_=>List.nodup_nil
 |a::l,h1,h2,h3=>by
  rw[List.flatMap_cons,List.nodup_append]
  obtain⟨g1,g2⟩:=List.nodup_cons.mp h1
  refine⟨h2 a (List.mem_cons_self ..),yp l g2 (fun b hb=>h2 b (List.mem_cons_of_mem _ hb)) fun b hb c hc=>h3 b (List.mem_cons_of_mem _ hb) c (List.mem_cons_of_mem _ hc),fun x hx y hy e=>?_⟩
  subst e
  obtain⟨b,hb,q⟩:=List.mem_flatMap.mp hy
  have:=h3 a (List.mem_cons_self ..) b (List.mem_cons_of_mem _ hb) x hx q
  subst this
  exact g1 hb
theorem wz:(aw bd W w).flatten=(aW bd W w (ax bd.length W)).flatMap (aI bd W w):=by
 unfold aw
 rw[List.flatMap_def]
theorem kO(hw:Ways w):(aw bd W w).flatten.Nodup:=by
 rw[wz]
 refine yp _ sj (fun a ha=>RiseC.nodup (a_ hw (cf ha)).rise) fun a ha b hb x hx hy=>?_
 exact(j3 hw ha hx).one hw ((((a_ hw (cf ha)).mem x).mp hx).on hw (cf ha)) (j3 hw hb hy)
theorem pj(hw:Ways w){x:Cell}(h:x∈(aw bd W w).flatten):On bd.length W x:=by
 obtain⟨P,hP,hx⟩:=List.mem_flatten.mp h
 exact ly hw P hP x hx
theorem A3(hw:Ways w):(aw bd W w).flatten.length≤bd.length*W:=iR (kO hw) fun x hx=>pj hw hx
theorem A4(hg:Brd bd W)(hw:Ways w):iH (aw bd W w).flatten=ax bd.length W:=
 i8 (gN (kO hw)) (cO _ _) fun x=>by
  rw[iZ,aM]
  exact⟨pj hw,fun hx=>let ⟨P,h1,h2⟩:=gx hg hw hx;List.mem_flatten.mpr ⟨P,h1,h2⟩⟩
theorem Jt{a b:Cell}:∀{j:Nat},Rb (aO bd W 4) a j b→Rb (aO bd W 8) a j b
 |0,h=>h
 |j+1,h=>h.elim (fun q=> .inl (Jt q)) fun⟨y,q1,q2⟩=> .inr ⟨y,Jt q1,by
  have:=(cb (.inl rfl)).mp q2
  exact(cb (.inr rfl)).mpr ⟨this.1,Lm this.2.1,this.2.2⟩⟩
theorem MO{a b:Cell}(h:Cn bd W 4 a b):Cn bd W 8 a b:=let ⟨j,q⟩:=h;⟨j,Jt q⟩
theorem MR:(aw bd W 8).length≤(aw bd W 4).length:=by
 unfold aw
 rw[List.length_map,List.length_map]
 unfold aW
 rw[←List.countP_eq_length_filter,←List.countP_eq_length_filter]
 refine List.countP_mono_left fun x _ h=>?_
 rw[decide_eq_true_eq] at h⊢
 exact⟨Cn.refl,fun z hz=>h.2 z (MO hz)⟩
variable{c:Nat}
end
theorem qC{val:Nat→Str}{x:Str}:∀{n:Nat},(∀i,i<n→val i=x)→0<n→eo val n=[x]
 |1,h,_=>by
  show n9 [] (val 0)=_
  rw[h 0 (by decide)]
  rfl
 |n+2,h,_=>by
  show n9 (eo val (n+1)) (val (n+1))=_
  rw[qC (fun i hi=>h i (Nat.lt_succ_of_lt hi)) (Nat.succ_pos _),h (n+1) (Nat.lt_succ_self _)]
  unfold n9
  rw[if_pos (List.mem_singleton.mpr rfl)]
end K1
namespace K1
open PySem L2 L3
theorem wK{α:Type}{R:α→Cell→Prop}:∀(l:List α) (K:List Cell),l.Nodup→(∀m∈l,∃k∈K,R m k)→(∀m∈l,∀n∈l,∀k,R m k→R n k→m=n)→l.length≤K.length
 |[],_,_,_,_=>Nat.zero_le _
 |m::l,K,hn,h,hi=>by
  obtain⟨g1,g2⟩:=List.nodup_cons.mp hn
  obtain⟨k,hk,hr⟩:=h m (List.mem_cons_self ..)
  have:=wK l (K.erase k) g2 (fun n zW=>by
   obtain⟨k',qj,G1⟩:=h n (List.mem_cons_of_mem _ zW)
   refine⟨k',(List.mem_erase_of_ne fun e=>?_).mpr qj,G1⟩
   subst e
   rw[hi m (List.mem_cons_self ..) n (List.mem_cons_of_mem _ zW) k' hr G1] at g1
   exact g1 zW) fun m hm n zW=>hi m (List.mem_cons_of_mem _ hm) n (List.mem_cons_of_mem _ zW)
  rw[List.length_erase_of_mem hk] at this
  have:=List.length_pos_of_mem hk
  rw[List.length_cons]
  omega
structure Iso (a a':List Str) (W W' w:Nat) (φ:Cell→Cell):Prop where
 on:∀x,On a.length W x→On a'.length W' (φ x)
 nx:∀x y,On a.length W x→On a.length W y→i4 w x y=true→i4 w (φ x) (φ y)=true
 lt:∀x,On a.length W x→lt a' (φ x)=lt a x
section
open Classical
variable{a a':List Str}{W W' w:Nat}{φ ψ:Cell→Cell}
theorem Iso.rb(h:Iso a a' W W' w φ)(hw:Ways w){x:Cell}(hx:On a.length W x):∀{j:Nat}{y:Cell},Rb (aO a W w) x j y→Rb (aO a' W' w) (φ x) j (φ y)
 |0,y,q=>congrArg φ q
 |j+1,y,q=>q.elim (fun q=> .inl (h.rb hw hx q)) fun⟨z,q1,q2⟩=>by
  have hz:=qW hw hx q1
  have hy:=(cb hw).mp q2
  exact .inr ⟨φ z,h.rb hw hx q1,(cb hw).mpr ⟨h.on y hy.1,h.nx z y hz hy.1 hy.2.1,by rw[h.lt y hy.1,h.lt z hz,hy.2.2]⟩⟩
theorem Iso.cn(h:Iso a a' W W' w φ)(hw:Ways w){x y:Cell}(hx:On a.length W x)(q:Cn a W w x y):Cn a' W' w (φ x) (φ y):=let ⟨j,q⟩:=q;⟨j,h.rb hw hx q⟩
theorem AA(hw:Ways w){x:Cell}(hx:On a.length W x):(aI a W w x).Nodup:=RiseC.nodup (a_ hw hx).rise
theorem Iso.le(h:Iso a a' W W' w φ)(hi:∀x,On a.length W x→ψ (φ x)=x)(hw:Ways w){x:Cell}(hx:On a.length W x):(aI a W w x).length≤(aI a' W' w (φ x)).length:=by
 have hP:=a_ hw hx
 refine wK (R:=fun m k=>k=φ m) _ _ (AA hw hx) (fun m hm=>⟨φ m,((a_ hw (h.on x hx)).mem _).mpr (h.cn hw hx ((hP.mem m).mp hm)),rfl⟩) fun m hm n hn k e1 e2=>?_
 have e:φ m=φ n:=e1.symm.trans e2
 rw[←hi m (((hP.mem m).mp hm).on hw hx),e,hi n (((hP.mem n).mp hn).on hw hx)]
structure Iso2 (a a':List Str) (W W' w:Nat) (φ ψ:Cell→Cell):Prop where
 f:Iso a a' W W' w φ
 g:Iso a' a W' W w ψ
 fg:∀x,On a.length W x→ψ (φ x)=x
 gf:∀x,On a'.length W' x→φ (ψ x)=x
theorem Iso2.len(h:Iso2 a a' W W' w φ ψ)(hw:Ways w){x:Cell}(hx:On a.length W x):(aI a' W' w (φ x)).length=(aI a W w x).length:=by
 refine Nat.le_antisymm ?_ (h.f.le h.fg hw hx)
 have:=h.g.le h.gf hw (h.f.on x hx)
 rw[h.fg x hx] at this
 exact this
noncomputable def BJ(a:List Str)(W w k:Nat):List Cell:=(ax a.length W).filter fun x=>decide ((aI a W w x).length=k)
theorem Iso2.symm(h:Iso2 a a' W W' w φ ψ):Iso2 a' a W' W w ψ φ:=⟨h.g,h.f,h.gf,h.fg⟩
theorem Iso2.cnt_le(h:Iso2 a a' W W' w φ ψ)(hw:Ways w)(k:Nat):(BJ a W w k).length≤(BJ a' W' w k).length:=by
 refine wK (R:=fun m k=>k=φ m) _ _ ((RiseC.nodup (cO _ _)).filter _) (fun m hm=>?_) fun m hm n hn k e1 e2=>?_
 ·unfold BJ at hm
  rw[List.mem_filter,decide_eq_true_eq] at hm
  have yu:=aM.mp hm.1
  refine⟨φ m,?_,rfl⟩
  unfold BJ
  rw[List.mem_filter,decide_eq_true_eq]
  exact⟨aM.mpr (h.f.on m yu),(h.len hw yu).trans hm.2⟩
 ·have e:φ m=φ n:=e1.symm.trans e2
  rw[←h.fg m (aM.mp (List.mem_filter.mp hm).1),e,h.fg n (aM.mp (List.mem_filter.mp hn).1)]
theorem ug{f:Cell→Nat}(k:Nat):∀Ps:List (List Cell),(∀P∈Ps,∀x∈P,f x=P.length)→(Ps.flatten.filter fun x=>decide (f x=k)).length=k*(Ps.map List.length).count k
 |[],_=>rfl
 |P::Ps,h=>by
  have ih:=ug k Ps fun Q hQ=>h Q (List.mem_cons_of_mem _ hQ)
  have hP:=h P (List.mem_cons_self ..)
  rw[List.flatten_cons,List.filter_append,List.length_append,ih,List.map_cons,List.count_cons]
  by_cases e:P.length=k
  ·rw[List.filter_eq_self.mpr fun x hx=>decide_eq_true ((hP x hx).trans e),if_pos (by rw[e,beq_self_eq_true]),Nat.mul_add,e]
   omega
  ·rw[List.filter_eq_nil_iff.mpr fun x hx=>by rw[hP x hx];simpa using e,if_neg (by simpa using e)]
   simp
theorem lz(hw:Ways w){P:List Cell}(hP:P∈aw a W w){x:Cell}(hx:x∈P):aI a W w x=P:=by
 obtain⟨m,hm,rfl⟩:=List.mem_map.mp (show P∈(aW a W w (ax a.length W)).map (aI a W w) from hP)
 have yu:=cf hm
 have h1:=a_ hw yu
 have hc:=(h1.mem x).mp hx
 have h2:=a_ hw (hc.on hw yu)
 exact i8 h2.rise h1.rise fun y=>by
  rw[h2.mem,h1.mem]
  exact⟨fun q=>hc.trans q,fun q=>(hc.symm hw yu).trans q⟩
theorem zL(hg:Brd a W)(hw:Ways w):(aw a W w).flatten.Perm (ax a.length W):=
 (List.perm_ext_iff_of_nodup (kO hw) (RiseC.nodup (cO _ _))).mpr fun x=>by
  rw[aM]
  exact⟨pj hw,fun hx=>let ⟨P,h1,h2⟩:=gx hg hw hx;List.mem_flatten.mpr ⟨P,h1,h2⟩⟩
theorem p9(hg:Brd a W)(hw:Ways w)(k:Nat):(BJ a W w k).length=k*((aw a W w).map List.length).count k:=by
 rw[←ug (f:=fun x=>(aI a W w x).length) k (aw a W w) fun P hP x hx=>by rw[lz hw hP hx]]
 exact((zL hg hw).filter _).length_eq.symm
theorem Iso2.perm(h:Iso2 a a' W W' w φ ψ)(hg:Brd a W)(Nk:Brd a' W')(hw:Ways w):((aw a' W' w).map List.length).Perm ((aw a W w).map List.length):=by
 have zero:∀{b:List Str}{V:Nat},((aw b V w).map List.length).count 0=0:=by
  intro b V
  rw[List.count_eq_zero]
  intro hz
  obtain⟨P,hP,e⟩:=List.mem_map.mp hz
  obtain⟨m,hm,rfl⟩:=List.mem_map.mp (show P∈(aW b V w (ax b.length V)).map (aI b V w) from hP)
  obtain⟨r,hr⟩:=gy hw hm
  rw[hr] at e
  cases e
 rw[List.perm_iff_count]
 intro k
 by_cases hk:k=0
 ·rw[hk,zero,zero]
 ·have h1:=h.cnt_le hw k
  have h2:=h.symm.cnt_le hw k
  rw[p9 hg hw,p9 Nk hw] at h1 h2
  exact Nat.eq_of_mul_eq_mul_left (Nat.pos_of_ne_zero hk) (Nat.le_antisymm h2 h1)
noncomputable def j4(bd:List Str)(V w:Nat):List Int:=(aw bd V w).map fun P=>(P.length:Int)
theorem D6{a b:List Int}(h:a.Perm b):dP a=dP b:=sJ ((d6 a).trans (h.trans (d6 b).symm)) (ja a) (ja b)
theorem Iso2.sizes(h:Iso2 a a' W W' w φ ψ)(hg:Brd a W)(Nk:Brd a' W')(hw:Ways w):dP (j4 a' W' w)=dP (j4 a W w):=by
 have:=(h.perm hg Nk hw).map fun(n:Nat)=>(n:Int)
 rw[List.map_map,List.map_map] at this
 exact D6 this
def JV(V:Nat)(x:Cell):Cell:=(x.1,V - 1 - x.2)
theorem kZ{V i j:Nat}(hi:i<V)(hj:j<V):fe (V - 1 - i) (V - 1 - j)=fe i j:=by unfold fe;omega
theorem Lh{V:Nat}{x:Cell}(h:x.2<V):JV V (JV V x)=x:=Prod.ext rfl (by show V - 1 - (V - 1 - x.2)=x.2;omega)
theorem Ip(hr:∀r∈a,r.length=W):Iso2 a (eX a) W W w (JV W) (JV W) where
 f:=⟨fun x h=>⟨by rw[j7];exact h.1,by show W - 1 - x.2<W;have:=h.2;omega⟩,fun x y hx hy h=>by unfold i4 JV at*;simp only[kZ hx.2 hy.2];exact h,fun x h=>by
  have h2:=h.2
  show at2 (eX a) x.1 (W - 1 - x.2)=at2 a x.1 x.2
  rw[yK hr h.1 (by omega)]
  congr 1
  omega⟩
 g:=⟨fun x h=>by
  rw[j7] at h
  exact⟨h.1,by show W - 1 - x.2<W;have:=h.2;omega⟩,fun x y hx hy h=>by unfold i4 JV at*;simp only[kZ hx.2 hy.2];exact h,fun x h=>by
  rw[j7] at h
  exact(yK hr h.1 h.2).symm⟩
 fg:=fun x h=>Lh h.2
 gf:=fun x h=>Lh h.2
def GN(n:Nat)(x:Cell):Cell:=(n - 1 - x.1,x.2)
theorem Hw{n:Nat}{x:Cell}(h:x.1<n):GN n (GN n x)=x:=Prod.ext (by show n - 1 - (n - 1 - x.1)=x.1;omega) rfl
theorem CF{x:Cell}(h:x.1<a.length):lt a.reverse x=lt a (GN a.length x):=by
 unfold lt at2 GN
 rw[List.getD_eq_getElem?_getD,List.getElem?_reverse h,←List.getD_eq_getElem?_getD]
theorem Io:Iso2 a a.reverse W W w (GN a.length) (GN a.length) where
 f:=⟨fun x h=>by
  rw[List.length_reverse]
  exact⟨by show a.length - 1 - x.1<_;have:=h.1;omega,h.2⟩,fun x y hx hy h=>by unfold i4 GN at*;simp only[kZ hx.1 hy.1];exact h,fun x h=>by
  have h1:=h.1
  rw[CF (by show a.length - 1 - x.1<_;omega),Hw h1]⟩
 g:=⟨fun x h=>by
  rw[List.length_reverse] at h
  exact⟨by show a.length - 1 - x.1<_;have:=h.1;omega,h.2⟩,fun x y hx hy h=>by
  rw[List.length_reverse] at hx hy
  unfold i4 GN at*
  simp only[kZ hx.1 hy.1]
  exact h,fun x h=>by
  rw[List.length_reverse] at h
  exact(CF h.1).symm⟩
 fg:=fun x h=>Hw h.1
 gf:=fun x h=>by rw[List.length_reverse] at h;exact Hw h.1
def PR(n:Nat)(x:Cell):Cell:=(x.2,n - 1 - x.1)
def PU(n:Nat)(x:Cell):Cell:=(n - 1 - x.2,x.1)
theorem Iq:Iso2 a (turn a W) W a.length w (PR a.length) (PU a.length) where
 f:=⟨fun x h=>⟨by rw[kK];exact h.2,by show a.length - 1 - x.1<_;have:=h.1;omega⟩,fun x y hx hy h=>by
  unfold i4 PR at*
  simp only[kZ hx.1 hy.1,Nat.add_comm (fe x.2 y.2),Nat.max_comm (fe x.2 y.2)]
  exact h,fun x h=>by
  have h1:=h.1
  show at2 (turn a W) x.2 (a.length - 1 - x.1)=at2 a x.1 x.2
  rw[zg h.2 (by omega)]
  congr 1
  omega⟩
 g:=⟨fun x h=>by
  rw[kK] at h
  exact⟨by show a.length - 1 - x.2<_;have:=h.2;omega,h.1⟩,fun x y hx hy h=>by
  unfold i4 PU at*
  simp only[kZ hx.2 hy.2,Nat.add_comm (fe x.2 y.2),Nat.max_comm (fe x.2 y.2)]
  exact h,fun x h=>by
  rw[kK] at h
  exact(zg h.1 h.2).symm⟩
 fg:=fun x h=>Prod.ext (by show a.length - 1 - (a.length - 1 - x.1)=x.1;have:=h.1;omega) rfl
 gf:=fun x h=>Prod.ext rfl (by show a.length - 1 - (a.length - 1 - x.2)=x.2;have:=h.2;omega)
theorem rH{bd v_:List Str}(hl:v_.length=bd.length)(h:∀a b,On bd.length W a→On bd.length W b→(lt v_ a=lt v_ b↔lt bd a=lt bd b))(hw:Ways w){x y:Cell}(hx:On bd.length W x):Cn v_ W w x y↔Cn bd W w x y:=by
 have i1:Iso v_ v_ W W w id:=⟨fun _ h=>h,fun _ _ _ _ h=>h,fun _ _=>rfl⟩
 have lk:∀c,On bd.length W c→∀z,z∈aO v_ W w c↔z∈aO bd W w c:=fun c hc z=>by
  rw[cb hw,cb hw,hl]
  exact and_congr_right fun hz=>and_congr_right fun _=>h z c hz hc
 have rb:∀{j:Nat}{b:Cell},Rb (aO v_ W w) x j b↔Rb (aO bd W w) x j b:=by
  intro j
  induction j with
  |zero=>exact Iff.rfl
  |succ j ih=>
   intro b
   constructor
   ·rintro(q | ⟨c,q1,q2⟩)
    ·exact .inl (ih.mp q)
    ·exact .inr ⟨c,ih.mp q1,(lk c (qW hw hx (ih.mp q1)) b).mp q2⟩
   ·rintro(q | ⟨c,q1,q2⟩)
    ·exact .inl (ih.mpr q)
    ·exact .inr ⟨c,ih.mpr q1,(lk c (qW hw hx q1) b).mpr q2⟩
 exact exists_congr fun j=>rb
theorem ve{bd v_:List Str}(hl:v_.length=bd.length)(h:∀a b,On bd.length W a→On bd.length W b→(lt v_ a=lt v_ b↔lt bd a=lt bd b))(hw:Ways w):aw v_ W w=aw bd W w:=by
 have hm:aW v_ W w (ax v_.length W)=aW bd W w (ax bd.length W):=by
  unfold aW
  rw[hl]
  refine List.filter_congr fun x hx=>decide_eq_decide.mpr ?_
  have hx:=aM.mp hx
  unfold Least
  rw[rH hl h hw hx]
  exact and_congr_right fun _=>forall_congr' fun z=>by rw[rH hl h hw hx]
 unfold aw
 rw[hm]
 refine List.map_congr_left fun m hm=>?_
 have yu:=cf hm
 unfold aI
 rw[hl]
 exact List.filter_congr fun x _=>decide_eq_decide.mpr (rH hl h hw yu)
theorem l5(f:Nat→Nat)(r:Str):(mapR f r).cps.toList=r.cps.toList.map f:=cV _
theorem Ih{c:Nat}(h:c∈Bq):E9 ⟨#[c]⟩=true:=(r0 c).trans (decide_eq_true h)
theorem CH{f:Nat→Nat}{bd:List Str}(hG:Good bd W)(hf:∀c∈cz bd,f c∈Bq):Good (bd.map (mapR f)) W:=by
 refine⟨by rw[List.length_map];exact hG.r1,by rw[List.length_map];exact hG.r5,hG.w1,hG.w5,fun r hr=>?_⟩
 obtain⟨q,hq,rfl⟩:=List.mem_map.mp hr
 refine⟨?_,fun c hc=>?_⟩
 ·show (mU (q.cps.toList.map f)).length=W
  rw[yI,List.length_map]
  exact(hG.rows q hq).len
 ·rw[l5] at hc
  obtain⟨a,ha,rfl⟩:=List.mem_map.mp hc
  exact Ih (hf a (j6.mpr ⟨q,hq,ha⟩))
theorem CD{f:Nat→Nat}{bd:List Str}(hg:Brd bd W){c:Cell}(hc:On bd.length W c):K1.lt (bd.map (mapR f)) c=f (K1.lt bd c):=by
 have h1:c.1<bd.length:=hc.1
 have hr:(bd.getD c.1 ⟨#[]⟩).cps.toList.length=W:=(hg.rows _ (getD_mem h1)).len
 have h2:c.2<(bd.getD c.1 ⟨#[]⟩).cps.toList.length:=by rw[hr];exact hc.2
 show ch ((bd.map (mapR f)).getD c.1 ⟨#[]⟩) c.2=f (ch (bd.getD c.1 ⟨#[]⟩) c.2)
 rw[List.getD_eq_getElem?_getD,List.getElem?_map,List.getElem?_eq_getElem h1]
 rw[List.getD_eq_getElem?_getD,List.getElem?_eq_getElem h1] at h2⊢
 simp only[Option.map_some,Option.getD_some] at h2⊢
 unfold ch
 rw[l5,List.getD_eq_getElem?_getD,List.getElem?_map,List.getElem?_eq_getElem h2,List.getD_eq_getElem?_getD,List.getElem?_eq_getElem h2]
 rfl
def Bg:List Nat:=[102,101,100,99,98,97]
def rn:List Nat→List Nat→Nat→Nat
 |a::as,b::bs,c=>if a=c then b else rn as bs c
 |_,_,_=>0
theorem y9:∀{as bs:List Nat}{c:Nat},as.length≤bs.length→c∈as→rn as bs c∈bs
 |a::as,b::bs,c,hl,h=>by
  unfold rn
  split
  ·exact List.mem_cons_self ..
  ·rename_i e
   exact List.mem_cons_of_mem _ (y9 (by simpa using hl) ((List.mem_cons.mp h).resolve_left (Ne.symm e)))
 |_::_,[],_,hl,_=>by simp at hl
theorem DO:∀{as bs:List Nat}{c d:Nat},as.length≤bs.length→bs.Nodup→c∈as→d∈as→rn as bs c=rn as bs d→c=d
 |a::as,b::bs,c,d,hl,hn,hc,hd,e=>by
  obtain⟨n1,n2⟩:=List.nodup_cons.mp hn
  have wH:as.length≤bs.length:=by simpa using hl
  unfold rn at e
  split at e
  ·rename_i e1
   split at e
   ·rename_i e2
    exact e1.symm.trans e2
   ·rename_i e2
    exact absurd (e▸y9 wH ((List.mem_cons.mp hd).resolve_left (Ne.symm e2))) n1
  ·rename_i e1
   have zP:=(List.mem_cons.mp hc).resolve_left (Ne.symm e1)
   split at e
   ·rename_i e2
    exact absurd (e▸y9 wH zP) n1
   ·rename_i e2
    exact DO wH n2 zP ((List.mem_cons.mp hd).resolve_left (Ne.symm e2)) e
 |_::_,[],_,_,hl,_,_,_,_=>by simp at hl
theorem DP:∀{as bs:List Nat}{c:Nat},as.length≤bs.length→c∈as→eJ (as.map fun c=>(Sum.inr ⟨#[c]⟩:Key)) ((bs.take as.length).map sg) (.inr ⟨#[c]⟩)=some (sg (rn as bs c))
 |a::as,b::bs,c,hl,h=>by
  show (if (Sum.inr ⟨#[a]⟩:Key)= .inr ⟨#[c]⟩ then some (sg b) else eJ (as.map fun c=>(Sum.inr ⟨#[c]⟩:Key)) ((bs.take as.length).map sg) (.inr ⟨#[c]⟩))=some (sg (if a=c then b else rn as bs c))
  by_cases e:a=c
  ·rw[if_pos (by rw[e]),if_pos e]
  ·rw[if_neg (fun q=>e (by injection q with q;injection q with q;simpa using q)),if_neg e]
   exact DP (by simpa using hl) ((List.mem_cons.mp h).resolve_left (Ne.symm e))
 |_::_,[],_,hl,_=>by simp at hl
end
end K1
namespace K1
open PySem PySem.Spec L2 L3
open PyProof.Rows hiding St
section
open Classical
variable{bd:List Str}{W w:Nat}
theorem hJ(hg:Brd bd W){c:Cell}(h:On bd.length W c):bg [brd bd,cD c]=M.ret (sg (lt bd c)):=
 aU (aj (bu ((ao (ds:=[brd bd]) rfl rfl).trans hg.nb)) (aj (bu ((ao (ds:=[brd bd,cD c]) rfl rfl).trans (hg.nc h))) (aH ((ao (ds:=[brd bd,cD c]) rfl rfl).trans (fH hg h)))))
theorem wa(hg:Brd bd W)(hw:Ways w){x:Cell}(hx:On bd.length W x):fR [brd bd,cD x, .int (w:Int)]=M.ret (cL (fv bd.length W w x)):=
 aU (aj (bu ((ao (ds:=[brd bd]) rfl rfl).trans hg.nb)) (aj (bu ((ao (ds:=[brd bd,cD x]) rfl rfl).trans (hg.nc hx))) (aj (bu ((ao (ds:=[.int (w:Int)]) rfl rfl).trans hw.nw)) (aH ((ao (ds:=[brd bd,cD x, .int (w:Int)]) rfl rfl).trans (h9 hg hw hx))))))
abbrev lG(s b:D)(x2 x3 x4 x5 x6 x7 x8 x9 Hh vK Em En vL vM:Option Sl):a9:=[fz s,fz b,x2,x3,x4,x5,x6,x7,x8,x9,Hh,vK,Em,En,vL,vM]
def so(R W:Nat)(f:Cell→Nat):D:= .lst ((List.range R).map fun r=> .lst ((cy W r).map fun y=> .int (f y:Int)))
theorem ON{ds:List D}{i:Nat}{d:D}(h:ds[i]? =some d):dq (.lst ds) (.int (i:Int))=M.ret d:=by
 show (match L2.atI ds (i:Int) with | some d=>M.ret d | none=>M.stuck)=_
 rw[eM h]
theorem Gg{R:Nat}{f:Cell→Nat}{x:Cell}(hx:On R W x){b i:Nat}{ρ:a9}(hb:dV b ρ=M.ret (so R W f))(hi:dV i ρ=M.ret (cD x)):d2 dq (d2 dq (dV b) (d2 bt (dV i) (dC (.int 0)))) (d2 bt (dV i) (dC (.int 1))) ρ=M.ret (.int (f x:Int)):=by
 have e1:d2 dq (dV b) (d2 bt (dV i) (dC (.int 0))) ρ=M.ret (.lst ((cy W x.1).map fun y=> .int (f y:Int))):=
  (bo (x:=so R W f) (y:= .int (x.1:Int)) hb ((bo (x:=cD x) (y:= .int 0) hi rfl).trans rfl)).trans (ON (by rw[List.getElem?_map,List.getElem?_range hx.1];rfl))
 refine(bo e1 ((bo (x:=cD x) (y:= .int 1) hi rfl).trans rfl:_=M.ret (.int (x.2:Int)))).trans (ON ?_)
 unfold cy
 rw[List.getElem?_map,List.getElem?_map,List.getElem?_range hx.2]
 rfl
theorem vI(g:Cell→Nat):∀l:List Cell,fL (l.map fun x=>sg (g x))=some (l.map fun x=>(⟨#[g x]⟩:Str))
 |[]=>rfl
 |x::l=>by
  show (fL (l.map fun x=>sg (g x))).map _=_
  rw[vI g l]
  rfl
theorem Gj{g:Cell→Nat}{l:List Cell}{c:Nat}(h:∀x∈l,g x=c)(h0:0<l.length)(hl:l.length≤64):eW (.lst (l.map fun x=>sg (g x)))=M.ret (.int 1):=by
 show (match fL (l.map fun x=>sg (g x)) with | some xs=>if xs.length≤64 then M.ret (D.int (eo (fun i=>xs.getD i ⟨#[]⟩) xs.length).length) else M.stuck | none=>M.stuck)=_
 rw[vI]
 show (if (l.map fun x=>(⟨#[g x]⟩:Str)).length≤64 then M.ret (D.int (eo (fun i=>(l.map fun x=>(⟨#[g x]⟩:Str)).getD i ⟨#[]⟩) (l.map fun x=>(⟨#[g x]⟩:Str)).length).length) else M.stuck)=_
 rw[if_pos (by rw[List.length_map];exact hl),qC (x:=(⟨#[c]⟩:Str)) (fun i hi=>?_) (by rw[List.length_map];exact h0)]
 ·rfl
 ·rw[List.length_map] at hi
  rw[List.getD_eq_getElem?_getD,List.getElem?_map,List.getElem?_eq_getElem hi]
  show (⟨#[g l[i]]⟩:Str)=_
  rw[h _ (List.getElem_mem hi)]
def Lc:DS:=(cH [8,9,10] (aE (bN 9 (ai 2 bg (aC (dV 1) (aC (dV 8) aN)))) (aE (bN 10 (aJ 0 (cE (ai 3 fR (aC (dV 1) (aC (dV 8) (aC (dV 3) aN))))) (dn (d2 nE (ai 2 bg (aC (dV 2) (aC (dV 0) aN))) (dV 10))) (dV 0))) (aE (gB (dn (d2 jB (aJ 0 (cE (dV 10)) (dn (d2 (zM true) (dV 0) (dV 8))) (dV 0)) (dA fq aN))) (bq (dC (.bl false))) cY) (gB (dn (d2 jB (d2 dq (d2 dq (dV 5) (d2 bt (dV 8) (dC (.int 0)))) (d2 bt (dV 8) (dC (.int 1)))) (dV 6))) (bq (dC (.bl false))) cY)))))
def Hr:DS:=(cH [6,7,8,9,10] (aE (gB (kX (dn (d2 jB (dV 7) (d1 gO (dV 7)))) (dn (d2 jB (d1 eW (aJ 0 (cE (dV 7)) aP (ai 2 bg (aC (dV 2) (aC (dV 0) aN))))) (dC (.int 1))))) (bq (dC (.bl false))) cY) (dH (putN 8) (cE (dV 7)) Lc)))
def IT:DS:=(cH [13] (gB (dn (d2 jB (dA o9 (aC (aJ 0 (cE (ai 2 cI (aC (dV 13) (aC (dV 3) aN)))) aP (dA bA (aC (dV 0) aN))) aN)) (dV 12))) (bq (dC (.bl false))) cY))
def J9:DS:=(cH [3,4,5,6,7,8,9,10,11,12,13,14,15] (aE (bN 4 (ai 2 cI (aC (dV 1) (aC (dV 3) aN)))) (aE (gB (kX (dn (d2 jB (dA xK (aC (ai 1 eK (aC (dV 4) aN)) aN)) (dV 2))) (dn (d2 jB (dA bA (aC (dV 4) aN)) (ai 2 cF (aC (dV 1) (aC (dV 3) aN)))))) (bq (dC (.bl false))) cY) (aE (bN 5 (ai 2 dW (aC (dV 1) (aC (dV 3) aN)))) (aE (dH (qV [6,7]) (fun ρ=>(aC (dV 4) aN) ρ>>=qe) Hr) (aE (bN 11 (aJ 0 (cE (dV 4)) aP (d2 dq (dV 0) (dC (.int 0))))) (aE (gB (kX (dn (d2 jB (dV 11) (dA xK (aC (dV 11) aN)))) (dn (d2 jB (ai 3 dX (aC (dV 1) (aC (d2 dq (d2 dq (dV 4) (d1 h7 (dC (.int 1)))) (d1 h7 (dC (.int 1)))) (aC (dV 3) aN)))) (d2 dq (dV 4) (d1 h7 (dC (.int 1))))))) (bq (dC (.bl false))) cY) (aE (bN 12 (dA o9 (aC (aJ 0 (cE (dV 4)) aP (dA bA (aC (dV 0) aN))) aN))) (aE (dH (putN 13) (gk (dA dm (aC (ai 1 el (aC (dV 1) aN)) (aC (ai 1 cS (aC (dV 1) aN)) (aC (rL (dV 1) (d1 h7 (dC (.int 1)))) aN))))) IT) (aE (bN 14 (BN (aC (aJ 2 (cE (ai 1 cX (aC (dV 1) aN))) aP (dV 0)) (aC (dC (.str "fedcba")) aN)))) (aE (bN 15 (dA pd (aC (aJ 0 (gk (dV 1)) aP (dM nQ joinM (dC (.str "")) (aC (aJ 0 (fun ρ=>(dV 0) ρ>>=o7) aP (d2 k7 (dV 16) (dV 0))) aN))) aN))) (gB (dn (d2 jB (ai 2 cI (aC (dV 15) (aC (dV 3) aN))) (dV 4))) (bq (dC (.bl false))) cY))))))))))))
variable{s:D}{x2 x4 x9 Hh vK Em En vL vM:Option Sl}
theorem Cm(hg:Brd bd W)(hs:bd.length*W<64)(hw:Ways w){f:Cell→Nat}{P:List Cell}{i:Nat}{x:Cell}(hx:On bd.length W x)(hP:P=aI bd W w x)(hf:f x=i):
 Lc (lG s (brd bd) x2 (fz (.int (w:Int))) x4 (fz (so bd.length W f)) (fz (.int (i:Int))) (fz (cL P)) (fz (cD x)) none none vK Em En vL vM)=M.ret (.nx (lG s (brd bd) x2 (fz (.int (w:Int))) x4 (fz (so bd.length W f)) (fz (.int (i:Int))) (fz (cL P)) none none none vK Em En vL vM)):=by
 have hN:=a_ hw hx
 refine(bD (ρ':=lG s (brd bd) x2 (fz (.int (w:Int))) x4 (fz (so bd.length W f)) (fz (.int (i:Int))) (fz (cL P)) (fz (cD x)) (fz (sg (lt bd x))) (fz (cL (aO bd W w x))) vK Em En vL vM) ?_).trans rfl
 refine aj (ρ':=lG s (brd bd) x2 (fz (.int (w:Int))) x4 (fz (so bd.length W f)) (fz (.int (i:Int))) (fz (cL P)) (fz (cD x)) (fz (sg (lt bd x))) none vK Em En vL vM) ((aR ((ao (ds:=[brd bd,cD x]) rfl rfl).trans (hJ hg hx))).trans rfl) ?_
 refine aj (ρ':=lG s (brd bd) x2 (fz (.int (w:Int))) x4 (fz (so bd.length W f)) (fz (.int (i:Int))) (fz (cL P)) (fz (cD x)) (fz (sg (lt bd x))) (fz (cL (aO bd W w x))) vK Em En vL vM) ((aR (d:=cL (aO bd W w x)) ?_).trans rfl) ?_
 ·refine aX (ds:=(fv bd.length W w x).map cD) (Ir ((ao (ds:=[brd bd,cD x, .int (w:Int)]) rfl rfl).trans (wa hg hw hx))) ?_ (by rw[List.length_map,cN];have:=qy bd W w x;omega)
  refine iS cD (fun y=>decide (lt bd y=lt bd x)) (fv bd.length W w x) fun y hy=>?_
  have Rm:=((lr hw).mp hy).1
  have e:dn (d2 nE (ai 2 bg (aC (dV 2) (aC (dV 0) aN))) (dV 10)) (fz (cD y)::lG s (brd bd) x2 (fz (.int (w:Int))) x4 (fz (so bd.length W f)) (fz (.int (i:Int))) (fz (cL P)) (fz (cD x)) (fz (sg (lt bd x))) none vK Em En vL vM)=M.ret (decide (lt bd y=lt bd x)):=
   gT ((bo (x:=sg (lt bd y)) (y:=sg (lt bd x)) ((ao (ds:=[brd bd,cD y]) rfl rfl).trans (hJ hg Rm)) rfl).trans (GK _ _))
  rw[rK,e,ak]
  cases decide (lt bd y=lt bd x)<;>rfl
 refine aj (dR (Al (xs:=aO bd W w x) (JU (i:=10) rfl) fun y hy=>?_) rfl) ?_
 ·have qi:y∈P:=by rw[hP];exact(hN.mem y).mpr (Cn.step Cn.refl hy)
  exact gT ((bo (x:=cD y) (y:=cL P) rfl rfl).trans (E_.trans (by rw[if_pos rfl,decide_eq_true qi];rfl)))
 refine dR (gT ((bo (Gg (b:=5) (i:=8) (f:=f) hx rfl rfl) (y:= .int (i:Int)) rfl).trans ?_)) rfl
 rw[hf,G6,beq_self_eq_true]
 rfl
theorem BV(hg:Brd bd W)(hs:bd.length*W<64)(hw:Ways w){f:Cell→Nat}(hf:∀x,On bd.length W x→∃P,(aw bd W w)[f x]? =some P∧x∈P){P:List Cell}{i:Nat}(hi:(aw bd W w)[i]? =some P):
 Hr (lG s (brd bd) x2 (fz (.int (w:Int))) x4 (fz (so bd.length W f)) (fz (.int (i:Int))) (fz (cL P)) none none none vK Em En vL vM)=M.ret (.nx (lG s (brd bd) x2 (fz (.int (w:Int))) x4 (fz (so bd.length W f)) none none none none none vK Em En vL vM)):=by
 have Km:=sf hi
 obtain⟨m,e1,O1⟩:=lx hi
 have hm:=sf e1
 have yu:=cf hm
 have hN:=a_ hw yu
 rw[←O1] at hN
 have Lo:∀x∈P,On bd.length W x:=fun x hx=>((hN.mem x).mp hx).on hw yu
 obtain⟨r,hr⟩:=gy hw hm
 have NI:0<P.length:=by rw[O1,hr];exact Nat.succ_pos _
 have hlen:P.length<64:=by
  have:=iR (bd:=bd) (W:=W) (RiseC.nodup hN.rise) Lo
  omega
 refine(bD (ρ':=lG s (brd bd) x2 (fz (.int (w:Int))) x4 (fz (so bd.length W f)) (fz (.int (i:Int))) (fz (cL P)) none none none vK Em En vL vM) ?_).trans rfl
 refine aj (dR (BM (p:=false) (q:=false) (gT ((bo (x:=cL P) (y:=cL P) rfl ?_).trans ((yN _ _).trans (by rw[decide_eq_true rfl];rfl)))) (gT ((bo (x:= .int 1) (y:= .int 1) ?_ rfl).trans rfl))) rfl) ?_
 ·show (M.ret (cL P)>>=gO)=_
  exact xM hg.r8 hg.w8 hN.rise hlen Lo
 ·show (aJ 0 (cE (dV 7)) aP (ai 2 bg (aC (dV 2) (aC (dV 0) aN))) _>>=eW)=_
  rw[aX (ys:=P.map fun x=>sg (lt bd x)) (JU (i:=7) (ds:=P.map cD) rfl) (cB cD (fun x=>sg (lt bd x)) _ fun x hx=>?_) (by rw[List.length_map,cN];omega),ak,Gj (c:=lt bd m) (fun x hx=>((hN.mem x).mp hx).letter hw) NI (by omega)]
  rw[dS,(ao (ds:=[brd bd,cD x]) rfl rfl:ai 2 bg (aC (dV 2) (aC (dV 0) aN)) _=_),hJ hg (Lo x hx)]
  rfl
 refine e9 (ds:=P.map cD) (JU (i:=7) rfl) (iW cD _ P fun x hx=>⟨_,rfl,Cm hg hs hw (Lo x hx) (lz hw Km hx).symm ?_⟩)
 obtain⟨Q,q1,q2⟩:=hf x (Lo x hx)
 exact E8 hw q1 hi q2 hx
theorem yb:∀(Ps:List (List Cell)) (acc:List Cell),acc.length+Ps.flatten.length≤4096→forL (putN 2) (cH [2] (bN 1 (d2 uk (dV 1) (dV 2)))) (Ps.map cL) [x4,fz (cL acc),none]=M.ret (.nx [x4,fz (cL (acc++Ps.flatten)),none])
 |[],acc,_=>by simp;rfl
 |P::Ps,acc,h=>by
  rw[List.flatten_cons,List.length_append] at h
  have ct:uk (cL acc) (cL P)=M.ret (cL (acc++P)):=by
   show (if (acc.map cD).length+(P.map cD).length≤lim then M.ret (D.lst (acc.map cD++P.map cD)) else M.stuck)=_
   rw[if_pos (by rw[List.length_map,List.length_map,cN];omega),←List.map_append]
  rw[List.map_cons,b_ (ρ2:=[x4,fz (cL (acc++P)),none]) rfl ((bD (ρ':=[x4,fz (cL (acc++P)),fz (cL P)]) ((aR ((bo (x:=cL acc) (y:=cL P) rfl rfl).trans ct)).trans rfl)).trans rfl),yb Ps (acc++P) (by rw[List.length_append];omega),List.flatten_cons,List.append_assoc]
theorem uB{Ps:List (List Cell)}(h:Ps.flatten.length≤4096):eK [.lst (Ps.map cL)]=M.ret (cL Ps.flatten):=by
 refine aU (aj (ρ':=[fz (.lst (Ps.map cL)),fz (cL []),none]) ((aR (d:=cL []) rfl).trans rfl) (aj (eF (e9 (JU (i:=0) rfl) (yb Ps [] (by rw[List.length_nil];omega)))) (aH ?_)))
 rw[List.nil_append]
 rfl
theorem qJ:∀l:List Int,nums (l.map D.int)=some l
 |[]=>rfl
 |x::r=>by
  show (nums (r.map D.int)).map _=_
  rw[qJ r]
  rfl
theorem uE{bd:List Str}{V:Nat}(hs:bd.length*V<64){δ:DE}{ρ:a9}(h:δ ρ=M.ret (.lst ((aw bd V w).map cL))):dA o9 (aC (aJ 0 (cE δ) aP (dA bA (aC (dV 0) aN))) aN) ρ=M.ret (.lst ((dP (j4 bd V w)).map D.int)):=by
 have hl:=jE (bd:=bd) (W:=V) (w:=w)
 have cm:aJ 0 (cE δ) aP (dA bA (aC (dV 0) aN)) ρ=M.ret (.lst ((j4 bd V w).map D.int)):=by
  refine aX (ds:=(aw bd V w).map cL) ?_ ?_ (by unfold j4;rw[List.length_map,List.length_map,cN];omega)
  ·show (δ ρ>>=lstM)=_
   rw[h]
   rfl
  ·unfold j4
   rw[List.map_map]
   refine cB cL _ _ fun P hP=>?_
   rw[dS]
   show (M.ret (D.int ((P.map cD).length:Int))>>=fun y=>M.ret (some y))=_
   rw[List.length_map]
   rfl
 refine(cC (xs:=[.lst ((j4 bd V w).map D.int)]) (aS cm rfl)).trans ?_
 show (match nums ((j4 bd V w).map D.int) with | some ns=>if ns.length<64 then M.ret (D.lst ((dP ns).map D.int)) else M.stuck | none=>M.stuck)=_
 rw[qJ]
 exact if_pos (by unfold j4;rw[List.length_map];omega)
theorem zR(hg:Brd bd W)(hs:bd.length*W<64)(hw:Ways w){ρ:a9}(h:ρ[4]? =some (fz (.lst ((aw bd W w).map cL)))):aJ 0 (cE (dV 4)) aP (d2 dq (dV 0) (dC (.int 0))) ρ=M.ret (cL (aW bd W w (ax bd.length W))):=by
 have hl:=jE (bd:=bd) (W:=W) (w:=w)
 refine aX (JU h) ?_ ?_
 ·unfold aw
  rw[List.map_map]
  refine cB (fun m=>cL (aI bd W w m)) cD _ fun m hm=>?_
  obtain⟨r,hr⟩:=gy hw hm
  rw[dS,(bo (x:=cL (aI bd W w m)) (y:= .int 0) rfl rfl:d2 dq (dV 0) (dC (.int 0)) (fz (cL (aI bd W w m))::ρ)=_),hr,show dq (cL (m::r)) (.int 0)=M.ret (cD m) from Iv (l:=m::r) (i:=0) rfl]
  rfl
 ·have:(aW bd W w (ax bd.length W)).length=(aw bd W w).length:=by unfold aw;rw[List.length_map]
  rw[List.length_map,this,cN]
  omega
theorem Ga{i:Nat}{ρ:a9}(h:dV i ρ=M.ret (brd bd)):rL (dV i) (d1 h7 (dC (.int 1))) ρ=M.ret (brd bd.reverse):=by
 unfold rL
 rw[h,ak]
 show M.ret (D.tup ((bd.map D.str).reverse))=_
 rw[brd,List.map_reverse]
theorem uF(s:List Nat):(fG s).length≤6:=List.length_filter_le ..
theorem Ak(hg:Brd bd W){i:Nat}{ρ:a9}(h0:ρ[i]? =some (fz (brd bd))):aJ 2 (cE (ai 1 cX (aC (dV i) aN))) aP (dV 0) ρ=M.ret (.lst ((fG (cz bd)).map sg)):=by
 refine aX (ds:=(fG (cz bd)).map (Lv (cz bd))) ?_ (cB (Lv (cz bd)) _ _ fun c _=>rfl) (by rw[List.length_map,cN];have:=uF (cz bd);omega)
 show (ai 1 cX (aC (dV i) aN) ρ>>=lstM)=_
 rw[(ao (ds:=[brd bd]) (aS (dU h0) rfl) rfl:ai 1 cX (aC (dV i) aN) ρ=_),uG hg]
 rfl
def G_(l:List Nat):D:= .dci (l.map fun c=>(Sum.inr ⟨#[c]⟩:Key)) ((Bg.take l.length).map sg)
theorem Gv{l:List Nat}(hn:l.Nodup)(h6:l.length≤6){δs:DA}{ρ:a9}(h:δs ρ=M.ret [.lst (l.map sg), .str "fedcba"]):BN δs ρ=M.ret (G_ l):=by
 unfold BN
 rw[h,ak]
 show ((match fL (l.map sg) with | some ks=>if ks.Nodup∧ks.length≤("fedcba":Str).cps.size∧("fedcba":Str).cps.all (· <128)=true∧ks.length≤64 then M.ret (C.dci (ks.map Sum.inr) ((("fedcba":Str).cps.toList.take ks.length).map fun c=> .str ⟨#[c]⟩)) else M.stuck | none=>M.stuck)>>=fun c=>M.ret c.d)=_
 rw[tL]
 have hs:("fedcba":Str).cps.size=6:=by decide+kernel
 have hf:("fedcba":Str).cps.toList=Bg:=by decide+kernel
 have ha:("fedcba":Str).cps.all (· <128)=true:=by decide+kernel
 show ((if (l.map fun c=>(⟨#[c]⟩:Str)).Nodup∧(l.map fun c=>(⟨#[c]⟩:Str)).length≤("fedcba":Str).cps.size∧("fedcba":Str).cps.all (· <128)=true∧(l.map fun c=>(⟨#[c]⟩:Str)).length≤64 then M.ret (C.dci ((l.map fun c=>(⟨#[c]⟩:Str)).map Sum.inr) ((("fedcba":Str).cps.toList.take (l.map fun c=>(⟨#[c]⟩:Str)).length).map fun c=> .str ⟨#[c]⟩)) else M.stuck)>>=fun c=>M.ret c.d)=_
 rw[if_pos ⟨List.Pairwise.map _ (fun a b B9=>fun q=>B9 (by injection q with q;simpa using q)) hn,by rw[List.length_map,hs];exact h6,ha,by rw[List.length_map];omega⟩,ak,hf,List.length_map,List.map_map]
 rfl
theorem F_(hg:Brd bd W)(hl:(fG (cz bd)).length≤6){ρ:a9}(h1:ρ[1]? =some (fz (brd bd)))(Qh:ρ[14]? =some (fz (G_ (fG (cz bd))))):dA pd (aC (aJ 0 (gk (dV 1)) aP (dM nQ joinM (dC (.str "")) (aC (aJ 0 (fun ρ=>(dV 0) ρ>>=o7) aP (d2 k7 (dV 16) (dV 0))) aN))) aN) ρ=M.ret (brd (bd.map (mapR (rn (fG (cz bd)) Bg)))):=by
 have h8:=hg.r8
 have cm:aJ 0 (gk (dV 1)) aP (dM nQ joinM (dC (.str "")) (aC (aJ 0 (fun ρ=>(dV 0) ρ>>=o7) aP (d2 k7 (dV 16) (dV 0))) aN)) ρ=M.ret (.lst (bd.map fun r=> .str (mapR (rn (fG (cz bd)) Bg) r))):=by
  refine aX (Pu h1) (cB D.str _ bd fun r hr=>?_) (by rw[List.length_map,cN];omega)
  rw[dS,Cy (i:=0) (δ:=d2 k7 (dV 16) (dV 0)) (ρ:=fz (.str r)::ρ) (r:=r) (g:=rn (fG (cz bd)) Bg) rfl (by rw[(hg.rows r hr).len];have:=hg.w8;omega) fun c hc=>?_]
  ·rfl
  ·have zP:c∈fG (cz bd):=by
    unfold fG
    rw[List.mem_filter,decide_eq_true_eq]
    have:=j6.mpr ⟨r,hr,hc⟩
    exact⟨mZ hg this,this⟩
   refine(bo (x:=G_ (fG (cz bd))) (y:=sg c) (dU (by exact Qh)) rfl).trans ?_
   show (match Bc (G_ (fG (cz bd))) (sg c) with | some (some v)=>M.ret v | _=>M.stuck)=_
   have:Bc (G_ (fG (cz bd))) (sg c)=some (some (sg (rn (fG (cz bd)) Bg c))):=congrArg some (DP hl zP)
   rw[this]
 refine(cC (aS cm rfl)).trans ?_
 show M.ret (D.tup (bd.map fun r=> .str (mapR (rn (fG (cz bd)) Bg) r)))=_
 unfold brd
 rw[List.map_map]
 rfl
end
section
open Classical
variable{bd:List Str}{W w:Nat}{s:D}
theorem Fo(l:List Nat):(fG l).Nodup:=by
 unfold fG
 exact(show Bq.Nodup by decide).filter _
theorem EV{c:Nat}(h:c∈Bg):c∈Bq:=by
 have:∀c∈Bg,c∈Bq:=by decide
 exact this c h
theorem n0(hg:Brd bd W){c:Nat}(h:c∈cz bd):c∈fG (cz bd):=by
 unfold fG
 rw[List.mem_filter,decide_eq_true_eq]
 exact⟨mZ hg h,h⟩
theorem zd{α:Type}{l:List α}(h:l≠[]):∃r x,l=r++[x]:=⟨l.dropLast,l.getLast h,(List.dropLast_concat_getLast h).symm⟩
theorem DM(hG:Good bd W):Good bd.reverse W:=⟨by rw[List.length_reverse];exact hG.r1,by rw[List.length_reverse];exact hG.r5,hG.w1,hG.w5,fun r hr=>hG.rows r (List.mem_reverse.mp hr)⟩
theorem oB{b:List Str}{V:Nat}(hb:Brd b V)(hs:b.length*V<64)(hw:Ways w){Z:List Int}(hZ:dP (j4 b V w)=Z){x2 x4 x5 x6 x7 x8 x9 Hh vK vL vM:Option Sl}{bb:D}:
 IT (lG s bb x2 (fz (.int (w:Int))) x4 x5 x6 x7 x8 x9 Hh vK (fz (.lst (Z.map D.int))) (fz (brd b)) vL vM)=M.ret (.nx (lG s bb x2 (fz (.int (w:Int))) x4 x5 x6 x7 x8 x9 Hh vK (fz (.lst (Z.map D.int))) none vL vM)):=by
 refine(bD (dR (gT ((bo (y:= .lst (Z.map D.int)) (uE hs ((ao (ds:=[brd b, .int (w:Int)]) rfl rfl).trans (il hb hs hw))) rfl).trans ((wt (mQ EO) (by decide) _ _).trans (by rw[hZ,decide_eq_true rfl];rfl)))) rfl)).trans rfl
theorem IU(hg:Brd bd W){ρ:a9}(h:ρ[1]? =some (fz (brd bd))):gk (dA dm (aC (ai 1 el (aC (dV 1) aN)) (aC (ai 1 cS (aC (dV 1) aN)) (aC (rL (dV 1) (d1 h7 (dC (.int 1)))) aN)))) ρ=M.ret [brd (turn bd W),brd (eX bd),brd bd.reverse]:=by
 have e:(aC (ai 1 el (aC (dV 1) aN)) (aC (ai 1 cS (aC (dV 1) aN)) (aC (rL (dV 1) (d1 h7 (dC (.int 1)))) aN))) ρ=M.ret [brd (turn bd W),brd (eX bd),brd bd.reverse]:=
  aS ((ao (ds:=[brd bd]) (aS (dU h) rfl) rfl).trans (xS hg)) (aS ((ao (ds:=[brd bd]) (aS (dU h) rfl) rfl).trans (sk hg)) (aS (Ga (dU h)) rfl))
 generalize brd (turn bd W)=a1 at e⊢
 generalize brd (eX bd)=a2 at e⊢
 generalize brd bd.reverse=a3 at e⊢
 unfold gk
 rw[cC e]
 rfl
theorem C8{A B C:List Str}{VA VB VC:Nat}(hA:Brd A VA)(sA:A.length*VA<64){Z:List Int}(zA:dP (j4 A VA w)=Z)(hB:Brd B VB)(sB:B.length*VB<64)(zB:dP (j4 B VB w)=Z)(hC:Brd C VC)(sC:C.length*VC<64)(zC:dP (j4 C VC w)=Z)(hw:Ways w){x2 x4 x5 x6 x7 x8 x9 Hh vK vL vM:Option Sl}{bb:D}:
 forL (putN 13) IT [brd A,brd B,brd C] (lG s bb x2 (fz (.int (w:Int))) x4 x5 x6 x7 x8 x9 Hh vK (fz (.lst (Z.map D.int))) none vL vM)=M.ret (.nx (lG s bb x2 (fz (.int (w:Int))) x4 x5 x6 x7 x8 x9 Hh vK (fz (.lst (Z.map D.int))) none vL vM)):=by
 rw[b_ rfl (oB hA sA hw zA),b_ rfl (oB hB sB hw zB),b_ rfl (oB hC sC hw zC)]
 rfl
set_option maxHeartbeats 2000000 in
theorem By(hG:Good bd W)(hw:Ways w):
 J9 (lG s (brd bd) (fz (cL (ax bd.length W))) (fz (.int (w:Int))) none none none none none none none none none none none none)=M.ret (.nx (lG s (brd bd) (fz (cL (ax bd.length W))) none none none none none none none none none none none none none)):=by
 have hg:=hG.brd
 have hs:bd.length*W<64:=by
  have:=Nat.mul_le_mul hG.r5 hG.w5
  omega
 have RQ:=jE (bd:=bd) (W:=W) (w:=w)
 obtain⟨f,hf,ef⟩:=sq hg hs hw
 have QZ:(aW bd W w (ax bd.length W)).length<64:=by
  have:(aW bd W w (ax bd.length W)).length=(aw bd W w).length:=by unfold aw;rw[List.length_map]
  omega
 have Mn:=A3 (bd:=bd) (W:=W) (w:=w) hw
 let S:D:= .lst ((aw bd W w).map cL)
 let Z:List Int:=dP (j4 bd W w)
 let L:List Nat:=fG (cz bd)
 let B:List Str:=bd.map (mapR (rn L Bg))
 let c2:Option Sl:=fz (cL (ax bd.length W))
 let cw:Option Sl:=fz (.int (w:Int))
 refine(bD (ρ':=lG s (brd bd) c2 cw (fz S) (fz (so bd.length W f)) none none none none none (fz (cL (aW bd W w (ax bd.length W)))) (fz (.lst (Z.map D.int))) none (fz (G_ L)) (fz (brd B))) ?_).trans rfl
 refine aj (ρ':=lG s (brd bd) c2 cw (fz S) none none none none none none none none none none none) ((aR ((ao (ds:=[brd bd, .int (w:Int)]) rfl rfl).trans (il hg hs hw))).trans rfl) ?_
 refine aj (dR (BM (p:=false) (q:=false) (gT ((bo (y:=cL (ax bd.length W)) ((cC (xs:=[cL (aw bd W w).flatten]) (aS ((ao (ds:=[S]) rfl rfl).trans (uB (by omega))) rfl)).trans (ze (kO hw) (by omega))) rfl).trans ((yN _ _).trans (by rw[A4 hg hw,decide_eq_true rfl];rfl)))) (gT ((bo (x:= .int ((aw bd W w).length:Int)) ?_ ((ao (ds:=[brd bd, .int (w:Int)]) rfl rfl).trans (gn hg hs hw))).trans ((G6 _ _).trans (by rw[beq_self_eq_true];rfl))))) rfl) ?_
 ·refine(cC (xs:=[S]) rfl).trans ?_
  show M.ret (D.int (((aw bd W w).map cL).length:Int))=_
  rw[List.length_map]
 refine aj (ρ':=lG s (brd bd) c2 cw (fz S) (fz (so bd.length W f)) none none none none none none none none none none) ((aR ((ao (ds:=[brd bd, .int (w:Int)]) rfl rfl).trans ef)).trans rfl) ?_
 refine aj (ρ':=lG s (brd bd) c2 cw (fz S) (fz (so bd.length W f)) none none none none none none none none none none) (e9 (ds:=((aw bd W w).zipIdx.map fun q:List Cell×Nat=>(q.2,q.1)).map JN) ?_ (iW (body:=Hr) JN _ _ fun q hq=>⟨_,rfl,BV hg hs hw hf ?_⟩)) ?_
 ·rw[←qB]
  rfl
 ·obtain⟨p,hp,rfl⟩:=List.mem_map.mp hq
  exact List.mem_zipIdx_iff_getElem?.mp hp
 refine aj (ρ':=lG s (brd bd) c2 cw (fz S) (fz (so bd.length W f)) none none none none none (fz (cL (aW bd W w (ax bd.length W)))) none none none none) ((aR (zR hg hs hw rfl)).trans rfl) ?_
 have Qg:On bd.length W (0,0):=⟨hG.r1,hG.w1⟩
 obtain⟨Ps,P,O2⟩:=zd (l:=aw bd W w) (by
  obtain⟨P,hP,_⟩:=gx hg hw Qg
  exact List.ne_nil_of_mem hP)
 have Km:P∈aw bd W w:=by rw[O2];exact List.mem_append_right _ (List.mem_cons_self ..)
 have M0:P≠[]:=by
  obtain⟨m,hm,rfl⟩:=List.mem_map.mp (show P∈(aW bd W w (ax bd.length W)).map (aI bd W w) from Km)
  obtain⟨r,hr⟩:=gy hw hm
  rw[hr]
  exact fun z=>by cases z
 obtain⟨P',x,GS⟩:=zd M0
 have Pm:x∈P:=by rw[GS];exact List.mem_append_right _ (List.mem_cons_self ..)
 have Pn:=ly hw P Km x Pm
 obtain⟨Q,hQ,eQ⟩:=sN hg hs hw Pn
 have Qr:Q=P:=(hQ.one (a_ hw Pn)).trans (lz hw Km Pm)
 have hS:S= .lst (Ps.map cL++[cL P]):=by
  show D.lst ((aw bd W w).map cL)=_
  rw[O2,List.map_append]
  rfl
 have e1:∀ρ:a9,ρ[4]? =some (fz S)→d2 dq (dV 4) (d1 h7 (dC (.int 1))) ρ=M.ret (cL P):=fun ρ h=>by
  refine(bo (x:=S) (y:= .int (-1)) (dU h) rfl).trans ?_
  rw[hS]
  exact yB ..
 have e2:∀ρ:a9,ρ[4]? =some (fz S)→d2 dq (d2 dq (dV 4) (d1 h7 (dC (.int 1)))) (d1 h7 (dC (.int 1))) ρ=M.ret (cD x):=fun ρ h=>by
  refine(bo (x:=cL P) (y:= .int (-1)) (e1 ρ h) rfl).trans ?_
  rw[GS,show cL (P'++[x])=D.lst (P'.map cD++[cD x]) by unfold cL;rw[List.map_append];rfl]
  exact yB ..
 refine aj (dR (BM (p:=false) (q:=false) (gT ((bo (x:=cL (aW bd W w (ax bd.length W))) rfl ((cC (xs:=[cL (aW bd W w (ax bd.length W))]) rfl).trans (ze sj QZ))).trans ((yN _ _).trans (by rw[vA Ag,decide_eq_true rfl];rfl)))) (gT ((bo (y:=cL P) ((ao (ds:=[brd bd,cD x, .int (w:Int)]) (aS rfl (aS (e2 _ rfl) rfl)) rfl).trans eQ) (e1 _ rfl)).trans ((yN _ _).trans (by rw[Qr,decide_eq_true rfl];rfl))))) rfl) ?_
 refine aj (ρ':=lG s (brd bd) c2 cw (fz S) (fz (so bd.length W f)) none none none none none (fz (cL (aW bd W w (ax bd.length W)))) (fz (.lst (Z.map D.int))) none none none) ((aR (uE hs (δ:=dV 4) rfl)).trans rfl) ?_
 have hr:∀r∈bd,r.length=W:=fun r q=>(hG.rows r q).len
 have hT:Brd (turn bd W) bd.length:=(AX hG).brd
 have hM:Brd (eX bd) W:=(Ah hG).brd
 have hR:Brd bd.reverse W:=(DM hG).brd
 refine aj (ρ':=lG s (brd bd) c2 cw (fz S) (fz (so bd.length W f)) none none none none none (fz (cL (aW bd W w (ax bd.length W)))) (fz (.lst (Z.map D.int))) none none none) (e9 (IU hg rfl) (C8 hT (by rw[kK,Nat.mul_comm];exact hs) (Iq.sizes hg hT hw) hM (by rw[j7];exact hs) ((Ip hr).sizes hg hM hw) hR (by rw[List.length_reverse];exact hs) (Io.sizes hg hR hw) hw)) ?_
 have h6:L.length≤6:=uF _
 refine aj (ρ':=lG s (brd bd) c2 cw (fz S) (fz (so bd.length W f)) none none none none none (fz (cL (aW bd W w (ax bd.length W)))) (fz (.lst (Z.map D.int))) none (fz (G_ L)) none) ((aR (Gv (Fo _) h6 (aS (Ak hg (i:=1) rfl) rfl))).trans rfl) ?_
 refine aj (ρ':=lG s (brd bd) c2 cw (fz S) (fz (so bd.length W f)) none none none none none (fz (cL (aW bd W w (ax bd.length W)))) (fz (.lst (Z.map D.int))) none (fz (G_ L)) (fz (brd B))) ((aR (F_ hg h6 rfl rfl)).trans rfl) ?_
 have hB:Brd B W:=(CH hG fun c hc=>EV (y9 (bs:=Bg) h6 (n0 hg hc))).brd
 have OX:B.length=bd.length:=List.length_map ..
 have K2:aw B W w=aw bd W w:=ve OX (fun a b ha hb=>by
  rw[CD hg ha,CD hg hb]
  exact⟨fun e=>DO (bs:=Bg) h6 (by decide) (n0 hg (se hg ha)) (n0 hg (se hg hb)) e,fun e=>by rw[e]⟩) hw
 exact dR (gT ((bo (y:=S) ((ao (ds:=[brd B, .int (w:Int)]) rfl rfl).trans (il hB (by rw[OX];exact hs) hw)) rfl).trans ((wt (mQ (mQ BW)) (by decide) (aw B W w) (aw bd W w)).trans (by rw[K2,decide_eq_true rfl];rfl)))) rfl
theorem CB(ns:List Int)(hl:ns.length≤63):iV [.scr ns]=M.ret (.bl true):=by
 obtain⟨bd,W,hG,hE,_,_,eb⟩:=wb ns hl 0 5 (by decide) (by decide)
 have hg:=hG.brd
 have hs:bd.length*W<64:=by
  have:=Nat.mul_le_mul hG.r5 hG.w5
  omega
 refine aU ?_
 refine aj (ρ':=lG (.scr ns) (brd bd) none none none none none none none none none none none none none none) ((aR ((ao (ds:=[.scr ns, .int 0, .int 5]) rfl rfl).trans eb)).trans rfl) ?_
 refine aj (ρ':=lG (.scr ns) (brd bd) (fz (cL (ax bd.length W))) none none none none none none none none none none none none none) ((aR ((ao (ds:=[brd bd]) rfl rfl).trans (zE hg))).trans rfl) ?_
 refine aj (ρ':=lG (.scr ns) (brd bd) (fz (cL (ax bd.length W))) none none none none none none none none none none none none none) (eF (e9 (ds:=[4,8].map fun(k:Nat)=>D.int (k:Int)) rfl (iW (body:=J9) (fun (k:Nat)=>D.int (k:Int)) _ [4,8] fun k hk=>⟨_,rfl,By hG ?_⟩))) ?_
 ·rcases List.mem_cons.mp hk with q | q
  ·exact .inl q
  ·exact .inr (List.mem_singleton.mp q)
 refine aH ((bo ((ao (ds:=[brd bd, .int ((8:Nat):Int)]) rfl rfl).trans (gn hg hs (.inr rfl))) ((ao (ds:=[brd bd, .int ((4:Nat):Int)]) rfl rfl).trans (gn hg hs (.inl rfl)))).trans ?_)
 show M.ret (D.bl (decide (((aw bd W 8).length:Int)≤((aw bd W 4).length:Int))))=_
 rw[decide_eq_true (by have:=MR (bd:=bd) (W:=W);omega)]
end
def DF(K:W.Frag)(x:Str)(s:Stmt):Prop:=∃(f:Addr) (oc:Value) (od an:Option Addr) (sl:Array (Option Value)) (kV dc pm cd ct:Value),PySem.W.nsIn K mainGlobals x=some (some (.ref f))∧K.lookup f=some ⟨oc,od, .func (PySem.W.fnOf x x (d7 s) (bO s) (af s) .none kV dc pm an cd ct),sl⟩∧PySem.W.codeIn K cd x=true∧PySem.W.keepIn K (.ref f)=true
theorem DF.mk{K:W.Frag}{x:Str}{s:Stmt}{f:Addr}{oc:Value}{od an:Option Addr}{sl:Array (Option Value)}{kV dc pm cd ct:Value}(a:PySem.W.nsIn K mainGlobals x=some (some (.ref f)))(l:K.lookup f=some ⟨oc,od, .func (PySem.W.fnOf x x (d7 s) (bO s) (af s) .none kV dc pm an cd ct),sl⟩)(c:PySem.W.codeIn K cd x=true)(k:PySem.W.keepIn K (.ref f)=true):DF K x s:=⟨f,oc,od,an,sl,kV,dc,pm,cd,ct,a,l,c,k⟩
theorem DF.at{K:W.Frag}{x:Str}{s:Stmt}{h:Heap}{mg:Str→Option Value}(X:K.In h)(G:h.Ns mainGlobals mg)(d:DF K x s):∃f,bz K mg x s f:=by
 obtain⟨f,oc,od,an,sl,kV,dc,pm,cd,ct,a,l,c,k⟩:=d
 exact⟨f,PySem.W.mg_of X G a,_,B4 (st:=s) l c k⟩
theorem all_mk{P:Program}{w:World}{K:W.Frag}{h:Heap}{mg:Str→Option Value}{fa:Addr}(X:K.In h)(G:h.Ns mainGlobals mg)(QF:mg "law"=some (.ref fa))
 {jA:Addr}{xf m6:Option Addr}{xH:Array (Option Value)}{xc nS nu oS jy nr:Value}
 {AV:Tok}
 {vF:Tok}
 {pb:Tok}
 (d_is_whole:DF K "is_whole" jL)
 (d_is_letter:DF K "is_letter" iz)
 (d_cells_of_row:DF K "cells_of_row" dN)
 (d_letter_of:DF K "letter_of" iC)
 (d_are_next:DF K "are_next" jJ)
 (d_keyed:DF K "keyed" s_)
 (d_column_from_below:DF K "column_from_below" b8)
 (d_numbers_of:DF K "numbers_of" gH)
 (d_law_cell:DF K "_law_cell" jM)
 (d_law_all:DF K "_law_all" lN)
 (d_is_row:DF K "is_row" kE)
 (d_is_cell:DF K "is_cell" lM)
 (d_need_ways:DF K "need_ways" iE)
 (d_all_cells:DF K "all_cells" iy)
 (d_next_cells:DF K "next_cells" gF)
 (d_law_drawn:DF K "_law_drawn" iA)
 (d_is_board:DF K "is_board" e_)
 (d_need_cell:DF K "need_cell" iD)
 (d_like_cells:DF K "like_cells" eI)
 (d_law_board:DF K "_law_board" fE)
 (d_need_board:DF K "need_board" gE)
 (d_steps_back:DF K "steps_back" gJ)
 (d_cells:DF K "cells" s9)
 (d_letter_at:DF K "letter_at" iB)
 (d_beside:DF K "beside" oZ)
 (d_turned:DF K "turned" kF)
 (d_mirrored:DF K "mirrored" gD)
 (d_letters:DF K "letters" i9)
 (d_all_patches:DF K "all_patches" fK)
 (d_patch_of:DF K "patch_of" jN)
 (d_patches:DF K "patches" lO)
 (d_how_many:DF K "how_many" jK)
 (d_numbered:DF K "numbered" gG)
 (a_law_k11:PySem.W.nsIn K mainGlobals "law"=some (some (.ref jA)))(l_law_k11:K.lookup jA=some ⟨xc,xf, .func (PySem.W.fnOf "law" "law" (d7 az) (bO az) (af az) .none nS nu oS m6 jy nr),xH⟩)(c_law_k11:PySem.W.codeIn K jy "law"=true)(k_law_k11:PySem.W.keepIn K (.ref jA)=true)
 (z_len:PySem.W.nsIn K mainGlobals "len"=some none)
 (z_isinstance:PySem.W.nsIn K mainGlobals "isinstance"=some none)
 (z_all:PySem.W.nsIn K mainGlobals "all"=some none)
 (z_abs:PySem.W.nsIn K mainGlobals "abs"=some none)
 (z_max:PySem.W.nsIn K mainGlobals "max"=some none)
 (z_min:PySem.W.nsIn K mainGlobals "min"=some none)
 (z_range:PySem.W.nsIn K mainGlobals "range"=some none)
 (z_str:PySem.W.nsIn K mainGlobals "str"=some none)
 (z_int:PySem.W.nsIn K mainGlobals "int"=some none)
 (z_bool:PySem.W.nsIn K mainGlobals "bool"=some none)
 (z_tuple:PySem.W.nsIn K mainGlobals "tuple"=some none)
 (z_dict:PySem.W.nsIn K mainGlobals "dict"=some none)
 (z_set:PySem.W.nsIn K mainGlobals "set"=some none)
 (z_sorted:PySem.W.nsIn K mainGlobals "sorted"=some none)
 (z_reversed:PySem.W.nsIn K mainGlobals "reversed"=some none)
 (z_enumerate:PySem.W.nsIn K mainGlobals "enumerate"=some none)
 (z_zip:PySem.W.nsIn K mainGlobals "zip"=some none)
 (y_LETTERS:PySem.W.nsIn K mainGlobals "LETTERS"=some (some (.str "abcdef" AV)))
 (y_MOST_ROWS:PySem.W.nsIn K mainGlobals "MOST_ROWS"=some (some (.int 8 vF)))
 (y_MOST_COLUMNS:PySem.W.nsIn K mainGlobals "MOST_COLUMNS"=some (some (.int 8 pb))):
 ∃(cv:Nat→Value) (fd:FuncData),(∀(s:Shared) (u:Value),BindsTo s fd ⟨[u],[]⟩ [("_law_script",u)])∧∀base:Heap,K.In base→base.Ns mainGlobals mg→FnOk P w K mg base (pZ P w cv) 7 fa fd ["_law_script"] (JX K cv 1 iV):=by
 have ea:=QF.symm.trans (PySem.W.mg_of X G a_law_k11)
 cases ea
 refine⟨fun _=> .none,PySem.W.fnOf "law" "law" (d7 az) (bO az) (af az) .none nS nu oS m6 jy nr,fun s v=> .of_eq rfl,fun base KB GB=>?_⟩
 have B:Bl K mg base (fun _=> .none) (fun _=>mainGlobals) mainGlobals:=⟨PySem.W.mg_none_of X G z_len,PySem.W.mg_none_of X G z_isinstance,PySem.W.mg_none_of X G z_all,PySem.W.mg_none_of X G z_abs,PySem.W.mg_none_of X G z_max,PySem.W.mg_none_of X G z_min,PySem.W.mg_none_of X G z_range,PySem.W.mg_none_of X G z_str,PySem.W.mg_none_of X G z_int,PySem.W.mg_none_of X G z_bool,PySem.W.mg_none_of X G z_tuple,PySem.W.mg_none_of X G z_dict,PySem.W.mg_none_of X G z_set,PySem.W.mg_none_of X G z_sorted,PySem.W.mg_none_of X G z_reversed,PySem.W.mg_none_of X G z_enumerate,PySem.W.mg_none_of X G z_zip,⟨_,PySem.W.mg_of X G y_LETTERS⟩,⟨_,PySem.W.mg_of X G y_MOST_ROWS⟩,⟨_,PySem.W.mg_of X G y_MOST_COLUMNS⟩⟩
 have ou:=(DF.at X G d_is_whole).elim fun _ t=>uX (P:=P) (w:=w) B t
 have uP:=(DF.at X G d_is_letter).elim fun _ t=>sx (P:=P) (w:=w) B t
 have ib:=(DF.at X G d_cells_of_row).elim fun _ t=>mL (P:=P) (w:=w) B t
 have mj:=(DF.at X G d_letter_of).elim fun _ t=>sF (P:=P) (w:=w) B t
 have wZ:=(DF.at X G d_are_next).elim fun _ t=>uU (P:=P) (w:=w) B t
 have Fv:=(DF.at X G d_keyed).elim fun _ t=>C4 (P:=P) (w:=w) B t
 have jg:=(DF.at X G d_column_from_below).elim fun _ t=>ig (P:=P) (w:=w) B t
 have su:=(DF.at X G d_numbers_of).elim fun _ t=>pT (P:=P) (w:=w) B t
 have w9:=(DF.at X G d_law_cell).elim fun _ t=>uY (P:=P) (w:=w) B t
 have An:=(DF.at X G d_law_all).elim fun _ t=>xh (P:=P) (w:=w) B t
 have CZ:=(DF.at X G d_is_row).elim fun _ t=>As (P:=P) (w:=w) B uP t
 have Am:=(DF.at X G d_is_cell).elim fun _ t=>xg (P:=P) (w:=w) B ou t
 have er:=(DF.at X G d_need_ways).elim fun _ t=>sH (P:=P) (w:=w) B ou t
 have mi:=(DF.at X G d_all_cells).elim fun _ t=>sv (P:=P) (w:=w) B ib t
 have kj:=(DF.at X G d_next_cells).elim fun _ t=>pS (P:=P) (w:=w) B wZ t
 have uR:=(DF.at X G d_law_drawn).elim fun _ t=>sD (P:=P) (w:=w) B w9 t
 have w6:=(DF.at X G d_is_board).elim fun _ t=>uW (P:=P) (w:=w) B CZ t
 have ie:=(DF.at X G d_need_cell).elim fun _ t=>sG (P:=P) (w:=w) B Am t
 have sr:=(DF.at X G d_like_cells).elim fun _ t=>pQ (P:=P) (w:=w) B mj kj t
 have uQ:=(DF.at X G d_law_board).elim fun _ t=>sy (P:=P) (w:=w) B uR t
 have bx:=(DF.at X G d_need_board).elim fun _ t=>pR (P:=P) (w:=w) B w6 t
 have kl:=(DF.at X G d_steps_back).elim fun _ t=>pU (P:=P) (w:=w) B sr t
 have Fu:=(DF.at X G d_cells).elim fun _ t=>C2 (P:=P) (w:=w) B bx mi t
 have uS:=(DF.at X G d_letter_at).elim fun _ t=>sE (P:=P) (w:=w) B bx ie mj t
 have CY:=(DF.at X G d_beside).elim fun _ t=>Ar (P:=P) (w:=w) B bx ie er kj t
 have C0:=(DF.at X G d_turned).elim fun _ t=>Au (P:=P) (w:=w) B bx jg t
 have w_:=(DF.at X G d_mirrored).elim fun _ t=>uZ (P:=P) (w:=w) B bx t
 have Ao:=(DF.at X G d_letters).elim fun _ t=>xi (P:=P) (w:=w) B bx t
 have fI:=(DF.at X G d_all_patches).elim fun _ t=>oy (P:=P) (w:=w) B mi kl Fv t
 have xb:=(DF.at X G d_patch_of).elim fun _ t=>u7 (P:=P) (w:=w) B bx ie er kl t
 have Ap:=(DF.at X G d_patches).elim fun _ t=>xj (P:=P) (w:=w) B bx er fI t
 have w4:=(DF.at X G d_how_many).elim fun _ t=>uV (P:=P) (w:=w) B bx er fI t
 have xa:=(DF.at X G d_numbered).elim fun _ t=>u0 (P:=P) (w:=w) B bx er su fI ib t
 exact uT B uQ Fu Ap xa w4 C0 w_ uS xb An CY Ao (B4 (st:=az) l_law_k11 c_law_k11 k_law_k11)
end K1
open PySem PySem.W PyProof.Rows
set_option maxHeartbeats 0 in
theorem PySem.Challenge.cw_cellpatches_k11_whole_patches_holds : PySem.Challenge.rw_cellpatches_k11_whole_patches.Holds := by
 w_on;o_law
 refine holds_open (q:=K1.vJ) (loose:=[]) (Xt:=fun s=>xlAt K1.vJ [] s&&recOk (RowW.records (OpenRow.toRowW _)) s) (XP:=XL K1.vJ []) (Yf:=Hook.obs (kHook K1.nJ K1.nI (fun _=>by kernel_rfl))) (Ya:=Hook.val (kHook K1.nJ K1.nI (fun _=>by kernel_rfl))) (YP:=Hook.says (kHook K1.nJ K1.nI (fun _=>by kernel_rfl))) (N:=4024) ?hl (Hook.of (kHook K1.nJ K1.nI (fun _=>by kernel_rfl))) (Hook.keeps (kHook K1.nJ K1.nI (fun _=>by kernel_rfl))) (fun s e=>xl_of s (Bool.and_eq_true_iff.mp e).1) XL.keeps (by rfl) (by rfl) (by rfl) (fun s e=>recFacts_of (Bool.and_eq_true_iff.mp e).2) (by rfl) (by first | assumption | decide+kernel) (by decide+kernel) ⟨rfl,rfl,rfl,rfl,rfl,by decide+kernel⟩ ?hw ?hc
 case hl=>exact K1.KH
 (case hw=>w_witness2)
 k_fill
 refine L3.L0 (l:=PySem.Challenge.rw_cellpatches_k11_whole_patches) (k:=7) (n:=63) (x:="_law_script") (g:=K1.iV) rfl (by decide) rfl ⟨rfl,by decide,by decide⟩ (fun w h Y=>PySem.W.kIn_of Y) K1.CB ?F
 case F=>
  intro w mg fa h KX G HS
  refine' K1.all_mk KX G HS ?d_is_whole ?d_is_letter ?d_cells_of_row ?d_letter_of ?d_are_next ?d_keyed ?d_column_from_below ?d_numbers_of ?d_law_cell ?d_law_all ?d_is_row ?d_is_cell ?d_need_ways ?d_all_cells ?d_next_cells ?d_law_drawn ?d_is_board ?d_need_cell ?d_like_cells ?d_law_board ?d_need_board ?d_steps_back ?d_cells ?d_letter_at ?d_beside ?d_turned ?d_mirrored ?d_letters ?d_all_patches ?d_patch_of ?d_patches ?d_how_many ?d_numbered ?a_law_k11 ?l_law_k11 ?c_law_k11 ?k_law_k11 ?z_len ?z_isinstance ?z_all ?z_abs ?z_max ?z_min ?z_range ?z_str ?z_int ?z_bool ?z_tuple ?z_dict ?z_set ?z_sorted ?z_reversed ?z_enumerate ?z_zip ?y_LETTERS ?y_MOST_ROWS ?y_MOST_COLUMNS
  (case d_is_whole=>(refine' K1.DF.mk ?a ?l ?c ?k;(case a=>k_is);(case l=>k_is);(case c=>k_is);(case k=>k_is)))
  (case d_is_letter=>(refine' K1.DF.mk ?a ?l ?c ?k;(case a=>k_is);(case l=>k_is);(case c=>k_is);(case k=>k_is)))
  (case d_cells_of_row=>(refine' K1.DF.mk ?a ?l ?c ?k;(case a=>k_is);(case l=>k_is);(case c=>k_is);(case k=>k_is)))
  (case d_letter_of=>(refine' K1.DF.mk ?a ?l ?c ?k;(case a=>k_is);(case l=>k_is);(case c=>k_is);(case k=>k_is)))
  (case d_are_next=>(refine' K1.DF.mk ?a ?l ?c ?k;(case a=>k_is);(case l=>k_is);(case c=>k_is);(case k=>k_is)))
  (case d_keyed=>(refine' K1.DF.mk ?a ?l ?c ?k;(case a=>k_is);(case l=>k_is);(case c=>k_is);(case k=>k_is)))
  (case d_column_from_below=>(refine' K1.DF.mk ?a ?l ?c ?k;(case a=>k_is);(case l=>k_is);(case c=>k_is);(case k=>k_is)))
  (case d_numbers_of=>(refine' K1.DF.mk ?a ?l ?c ?k;(case a=>k_is);(case l=>k_is);(case c=>k_is);(case k=>k_is)))
  (case d_law_cell=>(refine' K1.DF.mk ?a ?l ?c ?k;(case a=>k_is);(case l=>k_is);(case c=>k_is);(case k=>k_is)))
  (case d_law_all=>(refine' K1.DF.mk ?a ?l ?c ?k;(case a=>k_is);(case l=>k_is);(case c=>k_is);(case k=>k_is)))
  (case d_is_row=>(refine' K1.DF.mk ?a ?l ?c ?k;(case a=>k_is);(case l=>k_is);(case c=>k_is);(case k=>k_is)))
  (case d_is_cell=>(refine' K1.DF.mk ?a ?l ?c ?k;(case a=>k_is);(case l=>k_is);(case c=>k_is);(case k=>k_is)))
  (case d_need_ways=>(refine' K1.DF.mk ?a ?l ?c ?k;(case a=>k_is);(case l=>k_is);(case c=>k_is);(case k=>k_is)))
  (case d_all_cells=>(refine' K1.DF.mk ?a ?l ?c ?k;(case a=>k_is);(case l=>k_is);(case c=>k_is);(case k=>k_is)))
  (case d_next_cells=>(refine' K1.DF.mk ?a ?l ?c ?k;(case a=>k_is);(case l=>k_is);(case c=>k_is);(case k=>k_is)))
  (case d_law_drawn=>(refine' K1.DF.mk ?a ?l ?c ?k;(case a=>k_is);(case l=>k_is);(case c=>k_is);(case k=>k_is)))
  (case d_is_board=>(refine' K1.DF.mk ?a ?l ?c ?k;(case a=>k_is);(case l=>k_is);(case c=>k_is);(case k=>k_is)))
  (case d_need_cell=>(refine' K1.DF.mk ?a ?l ?c ?k;(case a=>k_is);(case l=>k_is);(case c=>k_is);(case k=>k_is)))
  (case d_like_cells=>(refine' K1.DF.mk ?a ?l ?c ?k;(case a=>k_is);(case l=>k_is);(case c=>k_is);(case k=>k_is)))
  (case d_law_board=>(refine' K1.DF.mk ?a ?l ?c ?k;(case a=>k_is);(case l=>k_is);(case c=>k_is);(case k=>k_is)))
  (case d_need_board=>(refine' K1.DF.mk ?a ?l ?c ?k;(case a=>k_is);(case l=>k_is);(case c=>k_is);(case k=>k_is)))
  (case d_steps_back=>(refine' K1.DF.mk ?a ?l ?c ?k;(case a=>k_is);(case l=>k_is);(case c=>k_is);(case k=>k_is)))
  (case d_cells=>(refine' K1.DF.mk ?a ?l ?c ?k;(case a=>k_is);(case l=>k_is);(case c=>k_is);(case k=>k_is)))
  (case d_letter_at=>(refine' K1.DF.mk ?a ?l ?c ?k;(case a=>k_is);(case l=>k_is);(case c=>k_is);(case k=>k_is)))
  (case d_beside=>(refine' K1.DF.mk ?a ?l ?c ?k;(case a=>k_is);(case l=>k_is);(case c=>k_is);(case k=>k_is)))
  (case d_turned=>(refine' K1.DF.mk ?a ?l ?c ?k;(case a=>k_is);(case l=>k_is);(case c=>k_is);(case k=>k_is)))
  (case d_mirrored=>(refine' K1.DF.mk ?a ?l ?c ?k;(case a=>k_is);(case l=>k_is);(case c=>k_is);(case k=>k_is)))
  (case d_letters=>(refine' K1.DF.mk ?a ?l ?c ?k;(case a=>k_is);(case l=>k_is);(case c=>k_is);(case k=>k_is)))
  (case d_all_patches=>(refine' K1.DF.mk ?a ?l ?c ?k;(case a=>k_is);(case l=>k_is);(case c=>k_is);(case k=>k_is)))
  (case d_patch_of=>(refine' K1.DF.mk ?a ?l ?c ?k;(case a=>k_is);(case l=>k_is);(case c=>k_is);(case k=>k_is)))
  (case d_patches=>(refine' K1.DF.mk ?a ?l ?c ?k;(case a=>k_is);(case l=>k_is);(case c=>k_is);(case k=>k_is)))
  (case d_how_many=>(refine' K1.DF.mk ?a ?l ?c ?k;(case a=>k_is);(case l=>k_is);(case c=>k_is);(case k=>k_is)))
  (case d_numbered=>(refine' K1.DF.mk ?a ?l ?c ?k;(case a=>k_is);(case l=>k_is);(case c=>k_is);(case k=>k_is)))
  (case a_law_k11=>k_is)
  (case l_law_k11=>k_is)
  (case c_law_k11=>k_is)
  (case k_law_k11=>k_is)
  (case z_len=>k_is)
  (case z_isinstance=>k_is)
  (case z_all=>k_is)
  (case z_abs=>k_is)
  (case z_max=>k_is)
  (case z_min=>k_is)
  (case z_range=>k_is)
  (case z_str=>k_is)
  (case z_int=>k_is)
  (case z_bool=>k_is)
  (case z_tuple=>k_is)
  (case z_dict=>k_is)
  (case z_set=>k_is)
  (case z_sorted=>k_is)
  (case z_reversed=>k_is)
  (case z_enumerate=>k_is)
  (case z_zip=>k_is)
  (case y_LETTERS=>k_is)
  (case y_MOST_ROWS=>k_is)
  (case y_MOST_COLUMNS=>k_is)
