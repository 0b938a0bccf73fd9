import PyProof.Rows.All
import Wide.All
import OpenK.AllK
import Wide.FinOn
import Lean
import PyProof.EqAt
import PyProof.EqKinds
import PyProof.TupleCall
import PyProof.ListRange
import PyProof.Rows.SetFrom
import PyProof.WalkInts
import PyProof.Draws
import KE.KIntText
import PyProof.P3In
import PyProof.StrLawsChain
import PyProof.Rows.StrJoin2
import PySem.Challenge.RW_mainskeep_k70_houses_written
set_option Elab.async false
set_option linter.all false
set_option maxRecDepth 100000
set_option maxHeartbeats 8000000
namespace L2
open PySem
noncomputable def jy (s:Stmt):Arguments:=match s with
 | .FunctionDef _ a _ _ _ _ _ _ _ _=>a
 | _=>{ posonlyargs:=[],args:=[],vararg:=none,kwonlyargs:=[],kw_defaults:=[],kwarg:=none,defaults:=[] }
noncomputable def fY (s:Stmt):List Stmt:=match s with
 | .FunctionDef _ _ b _ _ _ _ _ _ _=>b
 | _=>[]
noncomputable def aF (s:Stmt):Scope:=match s with
 | .FunctionDef _ _ _ _ _ _ sc _ _ _=>sc
 | _=>{ kind:=.function,names:=[],isGenerator:=false,isCoroutine:=false }
end L2
namespace K70
open PySem L2
noncomputable def top (i:Nat):Stmt:=PySem.Challenge.pw_mainskeep_k70_houses_written.main.body.getD i (.Pass ⟨0,0,0,0⟩)
noncomputable abbrev kE (P:Params) (x:Str) (t:Nat) (v:Value):DictEntry:=⟨PyData.keyHash P x,.str x t,v⟩
noncomputable abbrev kF (x:Str) (st:Stmt) (doc pm:Value) (an:Option Addr) (cd ct:Value):FuncData:=PySem.W.fnOf x x (jy st) (fY st) (aF st) .none .none doc pm an cd ct
noncomputable abbrev kC (n q:String) (a b c l x y z:Nat) (r:Addr) (f:Nat) (r2:Addr) (u v w:Value) (t l2 e:Nat):Obj:=⟨.type "code",none,.fields [.str n a,.str q b,.str "/claim/cut.py" c,.int l 0,.int x 0,.int 0 0,.int 0 0,.int y 0,.ref r,.bool true,.int f 0,.ref r2,u,v,w,.ref z,.int t 0,.int l2 0,.str "/claim/cut.py" e].toArray,#[]⟩
noncomputable abbrev kG (n:String) (i:Nat) (m:Value) (c:Addr):Obj:=⟨.type "function",none,.func (kF n (top i) .none m none (.ref c) .none),#[]⟩
noncomputable abbrev kB (n:String) (i:Nat):Obj:=⟨.none,none,.func { kF n (top i) .none .none none .none .none with globals:=0 },#[]⟩
noncomputable abbrev kT (vs:List Value):Obj:=⟨.type "tuple",none,.seq vs.toArray 0,#[]⟩
noncomputable abbrev kN (vs:List Value):Obj:=⟨.none,none,.fields vs.toArray,#[]⟩
noncomputable def Qq (s:Stmt):Pos:=match s with
 | .FunctionDef _ _ _ _ _ _ _ _ _ p=>p
 | _=>⟨0,0,0,0⟩
noncomputable def heap:Params->PySem.W.Frag:=fun P=>
 (nat_lit 2,⟨.none,none,.dict [].toArray 0,#[]⟩) ::
 (nat_lit 3,⟨.type "dict",none,.dict [kE P "__name__" 165 (.str "law_mainskeep_k70_houses_written" 472),kE P "__doc__" 166 (.none),kE P "__package__" 167 (.none),kE P "__loader__" 168 (.builtin "__main__.__loader__#opaque"),kE P "__spec__" 169 (.none),kE P "__annotations__" 170 (.ref 6),kE P "__builtins__" 171 (.ref 4),kE P "__file__" 173 (.str "/claim/cut.py" 172),kE P "__cached__" 174 (.none),kE P "MainsError" 206 (.ref 24),kE P "NoText" 222 (.ref 37),kE P "NoHouse" 238 (.ref 49),kE P "is_whole_number" 247 (.ref 58),kE P "is_within" 256 (.ref 65),kE P "is_row" 265 (.ref 72),kE P "is_line" 279 (.ref 79),kE P "are_joined" 285 (.ref 84),kE P "is_net" 291 (.ref 89),kE P "is_piece" 300 (.ref 96),kE P "are_pieces" 306 (.ref 101),kE P "is_work" 322 (.ref 108),kE P "is_store" 335 (.ref 115),kE P "is_want" 346 (.ref 122),kE P "are_wants" 352 (.ref 127),kE P "is_house" 358 (.ref 132),kE P "FIGURES" 362 (.str "0123456789" 361),kE P "MOST_FIGURES" 364 (.int (40) 363),kE P "is_number" 370 (.ref 137),kE P "numbers_of" 376 (.ref 142),kE P "joined" 384 (.ref 147),kE P "show_work" 390 (.ref 152),kE P "show_house" 396 (.ref 157),kE P "read_numbers" 405 (.ref 164),kE P "read_net" 412 (.ref 171),kE P "read_line" 419 (.ref 178),kE P "read_work" 425 (.ref 183),kE P "read_store" 432 (.ref 190),kE P "read_hour" 438 (.ref 195),kE P "ORDER" 444 (.ref 196),kE P "READERS" 455 (.ref 197),kE P "read_rows" 461 (.ref 202),kE P "read_house" 471 (.ref 209),kE P "_law_bag" 484 (.ref 216),kE P "_law_take" 493 (.ref 223),kE P "_law_net" 499 (.ref 228),kE P "_law_work" 513 (.ref 235),kE P "_law_wants" 524 (.ref 242),kE P "_law_store" 534 (.ref 249),kE P "_law_house" 540 (.ref 254),kE P "_law_text" 546 (.ref 259),kE P "_law_is_plain" 552 (.ref 264),kE P "law" 558 (.ref 269)].toArray 52,#[]⟩) ::
 (nat_lit 57,kC "is_whole_number" "is_whole_number" 241 242 243 9 1 3 56 52 181 53 .none (.ref 54) (.ref 55) 245 9 246) ::
 (nat_lit 58,kG "is_whole_number" 5 (.str "mainskeep.kinds" 239) 57) ::
 (nat_lit 64,kC "is_within" "is_within" 248 249 250 11 3 3 63 59 181 60 .none (.ref 61) (.ref 62) 254 11 255) ::
 (nat_lit 65,kG "is_within" 6 (.str "mainskeep.kinds" 239) 64) ::
 (nat_lit 71,kC "is_row" "is_row" 257 258 259 13 3 3 70 66 181 67 .none (.ref 68) (.ref 69) 263 13 264) ::
 (nat_lit 72,kG "is_row" 7 (.str "mainskeep.kinds" 239) 71) ::
 (nat_lit 78,kC "is_line" "is_line" 268 269 270 16 2 3 77 73 181 74 .none (.ref 75) (.ref 76) 277 16 278) ::
 (nat_lit 79,kG "is_line" 9 (.str "mainskeep.nets" 266) 78) ::
 (nat_lit 83,kC "are_joined" "are_joined" 280 281 282 23 2 3 82 80 181 81 .none .none .none 283 23 284) ::
 (nat_lit 84,kG "are_joined" 10 (.str "mainskeep.nets" 266) 83) ::
 (nat_lit 88,kC "is_net" "is_net" 286 287 288 29 1 3 87 85 181 86 .none .none .none 289 29 290) ::
 (nat_lit 89,kG "is_net" 11 (.str "mainskeep.nets" 266) 88) ::
 (nat_lit 95,kC "is_piece" "is_piece" 294 295 296 37 1 3 94 90 181 91 .none (.ref 92) (.ref 93) 298 37 299) ::
 (nat_lit 96,kG "is_piece" 13 (.str "mainskeep.houses" 292) 95) ::
 (nat_lit 100,kC "are_pieces" "are_pieces" 301 302 303 39 1 3 99 97 181 98 .none .none .none 304 39 305) ::
 (nat_lit 101,kG "are_pieces" 14 (.str "mainskeep.houses" 292) 100) ::
 (nat_lit 107,kC "is_work" "is_work" 307 308 309 43 2 3 106 102 181 103 .none (.ref 104) (.ref 105) 320 43 321) ::
 (nat_lit 108,kG "is_work" 15 (.str "mainskeep.houses" 292) 107) ::
 (nat_lit 114,kC "is_store" "is_store" 323 324 325 52 2 3 113 109 181 110 .none (.ref 111) (.ref 112) 333 52 334) ::
 (nat_lit 115,kG "is_store" 16 (.str "mainskeep.houses" 292) 114) ::
 (nat_lit 121,kC "is_want" "is_want" 336 337 338 61 2 3 120 116 181 117 .none (.ref 118) (.ref 119) 344 61 345) ::
 (nat_lit 122,kG "is_want" 17 (.str "mainskeep.houses" 292) 121) ::
 (nat_lit 126,kC "are_wants" "are_wants" 347 348 349 66 2 3 125 123 181 124 .none .none .none 350 66 351) ::
 (nat_lit 127,kG "are_wants" 18 (.str "mainskeep.houses" 292) 126) ::
 (nat_lit 131,kC "is_house" "is_house" 353 354 355 68 1 3 130 128 181 129 .none .none .none 356 68 357) ::
 (nat_lit 132,kG "is_house" 19 (.str "mainskeep.houses" 292) 131) ::
 (nat_lit 136,kC "is_number" "is_number" 365 366 367 81 1 3 135 133 181 134 .none .none .none 368 81 369) ::
 (nat_lit 137,kG "is_number" 23 (.str "mainskeep.words" 359) 136) ::
 (nat_lit 141,kC "numbers_of" "numbers_of" 371 372 373 87 1 3 140 138 181 139 .none .none .none 374 87 375) ::
 (nat_lit 142,kG "numbers_of" 24 (.str "mainskeep.words" 359) 141) ::
 (nat_lit 146,kC "joined" "joined" 379 380 381 92 2 3 145 143 181 144 .none .none .none 382 92 383) ::
 (nat_lit 147,kG "joined" 26 (.str "mainskeep.texts" 377) 146) ::
 (nat_lit 151,kC "show_work" "show_work" 385 386 387 94 1 3 150 148 181 149 .none .none .none 388 94 389) ::
 (nat_lit 152,kG "show_work" 27 (.str "mainskeep.texts" 377) 151) ::
 (nat_lit 156,kC "show_house" "show_house" 391 392 393 98 1 3 155 153 181 154 .none .none .none 394 98 395) ::
 (nat_lit 157,kG "show_house" 28 (.str "mainskeep.texts" 377) 156) ::
 (nat_lit 163,kC "read_numbers" "read_numbers" 397 398 399 107 2 3 162 158 181 159 .none (.ref 160) (.ref 161) 403 107 404) ::
 (nat_lit 164,kG "read_numbers" 29 (.str "mainskeep.texts" 377) 163) ::
 (nat_lit 170,kC "read_net" "read_net" 406 407 408 112 1 3 169 165 181 166 .none (.ref 167) (.ref 168) 410 112 411) ::
 (nat_lit 171,kG "read_net" 30 (.str "mainskeep.texts" 377) 170) ::
 (nat_lit 177,kC "read_line" "read_line" 413 414 415 114 1 3 176 172 181 173 .none (.ref 174) (.ref 175) 417 114 418) ::
 (nat_lit 178,kG "read_line" 31 (.str "mainskeep.texts" 377) 177) ::
 (nat_lit 182,kC "read_work" "read_work" 420 421 422 116 1 3 181 179 181 180 .none .none .none 423 116 424) ::
 (nat_lit 183,kG "read_work" 32 (.str "mainskeep.texts" 377) 182) ::
 (nat_lit 189,kC "read_store" "read_store" 426 427 428 122 1 3 188 184 181 185 .none (.ref 186) (.ref 187) 430 122 431) ::
 (nat_lit 190,kG "read_store" 33 (.str "mainskeep.texts" 377) 189) ::
 (nat_lit 194,kC "read_hour" "read_hour" 433 434 435 124 1 3 193 191 181 192 .none .none .none 436 124 437) ::
 (nat_lit 195,kG "read_hour" 34 (.str "mainskeep.texts" 377) 194) ::
 (nat_lit 196,kT [.str "net" 439,.str "line" 440,.str "work" 441,.str "store" 442,.str "hour" 443]) ::
 (nat_lit 197,⟨.type "dict",none,.dict [kE P "net" 445 (.ref 171),kE P "line" 446 (.ref 178),kE P "work" 447 (.ref 183),kE P "store" 448 (.ref 190),kE P "hour" 449 (.ref 195)].toArray 5,#[]⟩) ::
 (nat_lit 201,kC "read_rows" "read_rows" 456 457 458 128 1 3 200 198 181 199 .none .none .none 459 128 460) ::
 (nat_lit 202,kG "read_rows" 37 (.str "mainskeep.texts" 377) 201) ::
 (nat_lit 208,kC "read_house" "read_house" 462 463 464 141 1 3 207 203 181 204 .none (.ref 205) (.ref 206) 469 141 470) ::
 (nat_lit 209,kG "read_house" 38 (.str "mainskeep.texts" 377) 208) ::
 (nat_lit 215,kC "_law_bag" "_law_bag" 474 475 476 151 2 3 214 210 181 211 .none (.ref 212) (.ref 213) 482 151 483) ::
 (nat_lit 216,kG "_law_bag" 40 (.str "law_mainskeep_k70_houses_written" 472) 215) ::
 (nat_lit 222,kC "_law_take" "_law_take" 485 486 487 161 2 3 221 217 181 218 .none (.ref 219) (.ref 220) 491 161 492) ::
 (nat_lit 223,kG "_law_take" 41 (.str "law_mainskeep_k70_houses_written" 472) 222) ::
 (nat_lit 227,kC "_law_net" "_law_net" 494 495 496 168 2 3 226 224 181 225 .none .none .none 497 168 498) ::
 (nat_lit 228,kG "_law_net" 42 (.str "law_mainskeep_k70_houses_written" 472) 227) ::
 (nat_lit 234,kC "_law_work" "_law_work" 500 501 502 177 2 3 233 229 181 230 .none (.ref 231) (.ref 232) 511 177 512) ::
 (nat_lit 235,kG "_law_work" 43 (.str "law_mainskeep_k70_houses_written" 472) 234) ::
 (nat_lit 241,kC "_law_wants" "_law_wants" 514 515 516 187 2 3 240 236 181 237 .none (.ref 238) (.ref 239) 522 187 523) ::
 (nat_lit 242,kG "_law_wants" 44 (.str "law_mainskeep_k70_houses_written" 472) 241) ::
 (nat_lit 248,kC "_law_store" "_law_store" 525 526 527 193 2 3 247 243 181 244 .none (.ref 245) (.ref 246) 532 193 533) ::
 (nat_lit 249,kG "_law_store" 45 (.str "law_mainskeep_k70_houses_written" 472) 248) ::
 (nat_lit 253,kC "_law_house" "_law_house" 535 536 537 199 1 3 252 250 181 251 .none .none .none 538 199 539) ::
 (nat_lit 254,kG "_law_house" 46 (.str "law_mainskeep_k70_houses_written" 472) 253) ::
 (nat_lit 258,kC "_law_text" "_law_text" 541 542 543 210 1 3 257 255 181 256 .none .none .none 544 210 545) ::
 (nat_lit 259,kG "_law_text" 47 (.str "law_mainskeep_k70_houses_written" 472) 258) ::
 (nat_lit 263,kC "_law_is_plain" "_law_is_plain" 547 548 549 224 1 3 262 260 181 261 .none .none .none 550 224 551) ::
 (nat_lit 264,kG "_law_is_plain" 48 (.str "law_mainskeep_k70_houses_written" 472) 263) ::
 (nat_lit 268,kC "law" "law" 553 554 555 228 1 3 267 265 181 266 .none .none .none 556 228 557) ::
 (nat_lit 269,kG "law" 49 (.str "law_mainskeep_k70_houses_written" 472) 268) ::
 []
noncomputable def objs (P:Params):List Obj:=
 PySem.W.boot_o_0 P ::
 PySem.W.boot_o_1 P ::
 PySem.W.boot_o_2 P ::
 ⟨.type "dict",none,.dict [kE P "__name__" 165 (.str "law_mainskeep_k70_houses_written" 472),kE P "__doc__" 166 (.none),kE P "__package__" 167 (.none),kE P "__loader__" 168 (.builtin "__main__.__loader__#opaque"),kE P "__spec__" 169 (.none),kE P "__annotations__" 170 (.ref 6),kE P "__builtins__" 171 (.ref 4),kE P "__file__" 173 (.str "/claim/cut.py" 172),kE P "__cached__" 174 (.none),kE P "MainsError" 206 (.ref 24),kE P "NoText" 222 (.ref 37),kE P "NoHouse" 238 (.ref 49),kE P "is_whole_number" 247 (.ref 58),kE P "is_within" 256 (.ref 65),kE P "is_row" 265 (.ref 72),kE P "is_line" 279 (.ref 79),kE P "are_joined" 285 (.ref 84),kE P "is_net" 291 (.ref 89),kE P "is_piece" 300 (.ref 96),kE P "are_pieces" 306 (.ref 101),kE P "is_work" 322 (.ref 108),kE P "is_store" 335 (.ref 115),kE P "is_want" 346 (.ref 122),kE P "are_wants" 352 (.ref 127),kE P "is_house" 358 (.ref 132),kE P "FIGURES" 362 (.str "0123456789" 361),kE P "MOST_FIGURES" 364 (.int (40) 363),kE P "is_number" 370 (.ref 137),kE P "numbers_of" 376 (.ref 142),kE P "joined" 384 (.ref 147),kE P "show_work" 390 (.ref 152),kE P "show_house" 396 (.ref 157),kE P "read_numbers" 405 (.ref 164),kE P "read_net" 412 (.ref 171),kE P "read_line" 419 (.ref 178),kE P "read_work" 425 (.ref 183),kE P "read_store" 432 (.ref 190),kE P "read_hour" 438 (.ref 195),kE P "ORDER" 444 (.ref 196),kE P "READERS" 455 (.ref 197),kE P "read_rows" 461 (.ref 202),kE P "read_house" 471 (.ref 209),kE P "_law_bag" 484 (.ref 216),kE P "_law_take" 493 (.ref 223),kE P "_law_net" 499 (.ref 228),kE P "_law_work" 513 (.ref 235),kE P "_law_wants" 524 (.ref 242),kE P "_law_store" 534 (.ref 249),kE P "_law_house" 540 (.ref 254),kE P "_law_text" 546 (.ref 259),kE P "_law_is_plain" 552 (.ref 264),kE P "law" 558 (.ref 269)].toArray 52,#[]⟩ ::
 PySem.W.boot_o_4 P ::
 PySem.W.boot_o_5 P ::
 PySem.W.boot_o_6 P ::
 PySem.W.boot_o_7 P ::
 PySem.W.boot_o_8 P ::
 PySem.W.boot_o_9 P ::
 PySem.W.boot_o_10 P ::
 kT [] ::
 kN [.int (2) 0,.int (0) 0,.ref 20,.int (4) 0,.int (0) 0,.ref 33,.int (6) 0,.int (0) 0,.ref 45,.int (9) 0,.int (0) 0,.ref 57,.int (11) 0,.int (0) 0,.ref 64,.int (13) 0,.int (0) 0,.ref 71,.int (16) 0,.int (0) 0,.ref 78,.int (23) 0,.int (0) 0,.ref 83,.int (29) 0,.int (0) 0,.ref 88,.int (37) 0,.int (0) 0,.ref 95,.int (39) 0,.int (0) 0,.ref 100,.int (43) 0,.int (0) 0,.ref 107,.int (52) 0,.int (0) 0,.ref 114,.int (61) 0,.int (0) 0,.ref 121,.int (66) 0,.int (0) 0,.ref 126,.int (68) 0,.int (0) 0,.ref 131,.int (81) 0,.int (0) 0,.ref 136,.int (87) 0,.int (0) 0,.ref 141,.int (92) 0,.int (0) 0,.ref 146,.int (94) 0,.int (0) 0,.ref 151,.int (98) 0,.int (0) 0,.ref 156,.int (107) 0,.int (0) 0,.ref 163,.int (112) 0,.int (0) 0,.ref 170,.int (114) 0,.int (0) 0,.ref 177,.int (116) 0,.int (0) 0,.ref 182,.int (122) 0,.int (0) 0,.ref 189,.int (124) 0,.int (0) 0,.ref 194,.int (128) 0,.int (0) 0,.ref 201,.int (141) 0,.int (0) 0,.ref 208,.int (151) 0,.int (0) 0,.ref 215,.int (161) 0,.int (0) 0,.ref 222,.int (168) 0,.int (0) 0,.ref 227,.int (177) 0,.int (0) 0,.ref 234,.int (187) 0,.int (0) 0,.ref 241,.int (193) 0,.int (0) 0,.ref 248,.int (199) 0,.int (0) 0,.ref 253,.int (210) 0,.int (0) 0,.ref 258,.int (224) 0,.int (0) 0,.ref 263,.int (228) 0,.int (0) 0,.ref 268] ::
 ⟨.type "code",none,.fields [.str "<module>" 182,.str "<module>" 183,.str "/claim/cut.py" 184,.int (1) 0,.int (0) 0,.int (0) 0,.int (0) 0,.int (0) 0,.ref 11,.bool false,.int (181) 0,.ref 12,.none,.none,.none,.none,.int (185) 0,.int (1) 0,.str "/claim/cut.py" 186].toArray,#[]⟩ ::
 ⟨.type "frame",none,.plain,#[some (.ref 13),some (.ref 3),some (.ref 3),none,some (.str "__main__" 164),none,some (.ref 0)]⟩ ::
 kT [.type "ValueError"] ::
 ⟨.type "builtin_function_or_method",none,.fields [.builtin "type.__prepare__",.type "type"].toArray,#[]⟩ ::
 ⟨.type "dict",none,.dict [kE P "__module__" 196 (.str "mainskeep.errors" 187),kE P "__qualname__" 198 (.str "MainsError" 197),kE P "__firstlineno__" 200 (.int (2) 199),kE P "__static_attributes__" 201 (.ref 22)].toArray 4,#[]⟩ ::
 kT [] ::
 kN [] ::
 ⟨.type "code",none,.fields [.str "MainsError" 191,.str "MainsError" 192,.str "/claim/cut.py" 193,.int (2) 0,.int (0) 0,.int (0) 0,.int (0) 0,.int (0) 0,.ref 18,.bool false,.int (181) 0,.ref 19,.none,.none,.none,.none,.int (194) 0,.int (2) 0,.str "/claim/cut.py" 195].toArray,#[]⟩ ::
 ⟨.type "frame",none,.plain,#[some (.ref 20),some (.ref 3),some (.ref 17),none,some (.str "mainskeep.errors" 187),none,some (.ref 0)]⟩ ::
 kT [] ::
 ⟨.type "dict",none,.dict [kE P "__module__" 196 (.str "mainskeep.errors" 187),kE P "__firstlineno__" 200 (.int (2) 199),kE P "__static_attributes__" 201 (.ref 22),kE P "__weakref__" 203 (.ref 25),kE P "__doc__" 204 (.none)].toArray 3,#[]⟩ ::
 ⟨.type "type",none,.cls { name:= "MainsError",bases:=[.type "ValueError"],mro:=[.ref 24,.type "ValueError",.type "Exception",.type "BaseException",.type "object"],ns:=23,qualname:= "MainsError",hasDict:=true,slotNames:=[],subclasses:=[.ref 37,.ref 49],abstract:=false,collection:=none,hasDel:=false },#[some (.ref 15),none,some (.str "MainsError" 189),some (.str "MainsError" 197),some (.builtin "ValueError.__new__"),some (.bool true)]⟩ ::
 ⟨.type "getset_descriptor",none,.fields [.str "__weakref__" 202,.ref 24,.builtin "ExceptionGroup.__weakref__",.none].toArray,#[]⟩ ::
 ⟨.type "super",none,.fields [.ref 24,.ref 24,.ref 24].toArray,#[]⟩ ::
 ⟨.type "builtin_function_or_method",none,.fields [.builtin "object.__init_subclass__",.ref 24].toArray,#[]⟩ ::
 kT [.ref 24] ::
 ⟨.type "builtin_function_or_method",none,.fields [.builtin "type.__prepare__",.type "type"].toArray,#[]⟩ ::
 ⟨.type "dict",none,.dict [kE P "__module__" 214 (.str "mainskeep.errors" 187),kE P "__qualname__" 216 (.str "NoText" 215),kE P "__firstlineno__" 218 (.int (4) 217),kE P "__static_attributes__" 219 (.ref 35)].toArray 4,#[]⟩ ::
 kT [] ::
 kN [] ::
 ⟨.type "code",none,.fields [.str "NoText" 209,.str "NoText" 210,.str "/claim/cut.py" 211,.int (4) 0,.int (0) 0,.int (0) 0,.int (0) 0,.int (0) 0,.ref 31,.bool false,.int (181) 0,.ref 32,.none,.none,.none,.none,.int (212) 0,.int (4) 0,.str "/claim/cut.py" 213].toArray,#[]⟩ ::
 ⟨.type "frame",none,.plain,#[some (.ref 33),some (.ref 3),some (.ref 30),none,some (.str "mainskeep.errors" 187),none,some (.ref 0)]⟩ ::
 kT [] ::
 ⟨.type "dict",none,.dict [kE P "__module__" 214 (.str "mainskeep.errors" 187),kE P "__firstlineno__" 218 (.int (4) 217),kE P "__static_attributes__" 219 (.ref 35),kE P "__doc__" 220 (.none)].toArray 2,#[]⟩ ::
 ⟨.type "type",none,.cls { name:= "NoText",bases:=[.ref 24],mro:=[.ref 37,.ref 24,.type "ValueError",.type "Exception",.type "BaseException",.type "object"],ns:=36,qualname:= "NoText",hasDict:=true,slotNames:=[],subclasses:=[],abstract:=false,collection:=none,hasDel:=false },#[some (.ref 28),none,some (.str "NoText" 207),some (.str "NoText" 215),some (.builtin "ValueError.__new__"),some (.bool true)]⟩ ::
 ⟨.type "super",none,.fields [.ref 37,.ref 37,.ref 37].toArray,#[]⟩ ::
 ⟨.type "builtin_function_or_method",none,.fields [.builtin "object.__init_subclass__",.ref 37].toArray,#[]⟩ ::
 kT [.ref 24] ::
 ⟨.type "builtin_function_or_method",none,.fields [.builtin "type.__prepare__",.type "type"].toArray,#[]⟩ ::
 ⟨.type "dict",none,.dict [kE P "__module__" 230 (.str "mainskeep.errors" 187),kE P "__qualname__" 232 (.str "NoHouse" 231),kE P "__firstlineno__" 234 (.int (6) 233),kE P "__static_attributes__" 235 (.ref 47)].toArray 4,#[]⟩ ::
 kT [] ::
 kN [] ::
 ⟨.type "code",none,.fields [.str "NoHouse" 225,.str "NoHouse" 226,.str "/claim/cut.py" 227,.int (6) 0,.int (0) 0,.int (0) 0,.int (0) 0,.int (0) 0,.ref 43,.bool false,.int (181) 0,.ref 44,.none,.none,.none,.none,.int (228) 0,.int (6) 0,.str "/claim/cut.py" 229].toArray,#[]⟩ ::
 ⟨.type "frame",none,.plain,#[some (.ref 45),some (.ref 3),some (.ref 42),none,some (.str "mainskeep.errors" 187),none,some (.ref 0)]⟩ ::
 kT [] ::
 ⟨.type "dict",none,.dict [kE P "__module__" 230 (.str "mainskeep.errors" 187),kE P "__firstlineno__" 234 (.int (6) 233),kE P "__static_attributes__" 235 (.ref 47),kE P "__doc__" 236 (.none)].toArray 2,#[]⟩ ::
 ⟨.type "type",none,.cls { name:= "NoHouse",bases:=[.ref 24],mro:=[.ref 49,.ref 24,.type "ValueError",.type "Exception",.type "BaseException",.type "object"],ns:=48,qualname:= "NoHouse",hasDict:=true,slotNames:=[],subclasses:=[],abstract:=false,collection:=none,hasDel:=false },#[some (.ref 40),none,some (.str "NoHouse" 223),some (.str "NoHouse" 231),some (.builtin "ValueError.__new__"),some (.bool true)]⟩ ::
 ⟨.type "super",none,.fields [.ref 49,.ref 49,.ref 49].toArray,#[]⟩ ::
 ⟨.type "builtin_function_or_method",none,.fields [.builtin "object.__init_subclass__",.ref 49].toArray,#[]⟩ ::
 kT [] ::
 kN [] ::
 kT [.str "thing" 244] ::
 kT [] ::
 kB "is_whole_number" 5 ::
 kC "is_whole_number" "is_whole_number" 241 242 243 9 1 3 56 52 181 53 .none (.ref 54) (.ref 55) 245 9 246 ::
 kG "is_whole_number" 5 (.str "mainskeep.kinds" 239) 57 ::
 kT [] ::
 kN [] ::
 kT [.str "thing" 251,.str "low" 252,.str "high" 253] ::
 kT [] ::
 kB "is_within" 6 ::
 kC "is_within" "is_within" 248 249 250 11 3 3 63 59 181 60 .none (.ref 61) (.ref 62) 254 11 255 ::
 kG "is_within" 6 (.str "mainskeep.kinds" 239) 64 ::
 kT [] ::
 kN [] ::
 kT [.str "thing" 260,.str "least" 261,.str "most" 262] ::
 kT [] ::
 kB "is_row" 7 ::
 kC "is_row" "is_row" 257 258 259 13 3 3 70 66 181 67 .none (.ref 68) (.ref 69) 263 13 264 ::
 kG "is_row" 7 (.str "mainskeep.kinds" 239) 71 ::
 kT [] ::
 kN [] ::
 kT [.str "thing" 271,.str "many" 272,.str "one" 273,.str "other" 274,.str "stiffness" 275,.str "most" 276] ::
 kT [] ::
 kB "is_line" 9 ::
 kC "is_line" "is_line" 268 269 270 16 2 3 77 73 181 74 .none (.ref 75) (.ref 76) 277 16 278 ::
 kG "is_line" 9 (.str "mainskeep.nets" 266) 78 ::
 kT [] ::
 kN [] ::
 kB "are_joined" 10 ::
 kC "are_joined" "are_joined" 280 281 282 23 2 3 82 80 181 81 .none .none .none 283 23 284 ::
 kG "are_joined" 10 (.str "mainskeep.nets" 266) 83 ::
 kT [] ::
 kN [] ::
 kB "is_net" 11 ::
 kC "is_net" "is_net" 286 287 288 29 1 3 87 85 181 86 .none .none .none 289 29 290 ::
 kG "is_net" 11 (.str "mainskeep.nets" 266) 88 ::
 kT [] ::
 kN [] ::
 kT [.str "thing" 297] ::
 kT [] ::
 kB "is_piece" 13 ::
 kC "is_piece" "is_piece" 294 295 296 37 1 3 94 90 181 91 .none (.ref 92) (.ref 93) 298 37 299 ::
 kG "is_piece" 13 (.str "mainskeep.houses" 292) 95 ::
 kT [] ::
 kN [] ::
 kB "are_pieces" 14 ::
 kC "are_pieces" "are_pieces" 301 302 303 39 1 3 99 97 181 98 .none .none .none 304 39 305 ::
 kG "are_pieces" 14 (.str "mainskeep.houses" 292) 100 ::
 kT [] ::
 kN [] ::
 kT [.str "thing" 310,.str "many" 311,.str "place" 312,.str "least" 313,.str "keep" 314,.str "pieces" 315,.str "start" 316,.str "stay" 317,.str "rest" 318,.str "was" 319] ::
 kT [] ::
 kB "is_work" 15 ::
 kC "is_work" "is_work" 307 308 309 43 2 3 106 102 181 103 .none (.ref 104) (.ref 105) 320 43 321 ::
 kG "is_work" 15 (.str "mainskeep.houses" 292) 107 ::
 kT [] ::
 kN [] ::
 kT [.str "thing" 326,.str "many" 327,.str "place" 328,.str "top" 329,.str "level" 330,.str "taken" 331,.str "given" 332] ::
 kT [] ::
 kB "is_store" 16 ::
 kC "is_store" "is_store" 323 324 325 52 2 3 113 109 181 110 .none (.ref 111) (.ref 112) 333 52 334 ::
 kG "is_store" 16 (.str "mainskeep.houses" 292) 114 ::
 kT [] ::
 kN [] ::
 kT [.str "thing" 339,.str "many" 340,.str "place" 341,.str "size" 342,.str "worth" 343] ::
 kT [] ::
 kB "is_want" 17 ::
 kC "is_want" "is_want" 336 337 338 61 2 3 120 116 181 117 .none (.ref 118) (.ref 119) 344 61 345 ::
 kG "is_want" 17 (.str "mainskeep.houses" 292) 121 ::
 kT [] ::
 kN [] ::
 kB "are_wants" 18 ::
 kC "are_wants" "are_wants" 347 348 349 66 2 3 125 123 181 124 .none .none .none 350 66 351 ::
 kG "are_wants" 18 (.str "mainskeep.houses" 292) 126 ::
 kT [] ::
 kN [] ::
 kB "is_house" 19 ::
 kC "is_house" "is_house" 353 354 355 68 1 3 130 128 181 129 .none .none .none 356 68 357 ::
 kG "is_house" 19 (.str "mainskeep.houses" 292) 131 ::
 kT [] ::
 kN [] ::
 kB "is_number" 23 ::
 kC "is_number" "is_number" 365 366 367 81 1 3 135 133 181 134 .none .none .none 368 81 369 ::
 kG "is_number" 23 (.str "mainskeep.words" 359) 136 ::
 kT [] ::
 kN [] ::
 kB "numbers_of" 24 ::
 kC "numbers_of" "numbers_of" 371 372 373 87 1 3 140 138 181 139 .none .none .none 374 87 375 ::
 kG "numbers_of" 24 (.str "mainskeep.words" 359) 141 ::
 kT [] ::
 kN [] ::
 kB "joined" 26 ::
 kC "joined" "joined" 379 380 381 92 2 3 145 143 181 144 .none .none .none 382 92 383 ::
 kG "joined" 26 (.str "mainskeep.texts" 377) 146 ::
 kT [] ::
 kN [] ::
 kB "show_work" 27 ::
 kC "show_work" "show_work" 385 386 387 94 1 3 150 148 181 149 .none .none .none 388 94 389 ::
 kG "show_work" 27 (.str "mainskeep.texts" 377) 151 ::
 kT [] ::
 kN [] ::
 kB "show_house" 28 ::
 kC "show_house" "show_house" 391 392 393 98 1 3 155 153 181 154 .none .none .none 394 98 395 ::
 kG "show_house" 28 (.str "mainskeep.texts" 377) 156 ::
 kT [] ::
 kN [] ::
 kT [.str "words" 400,.str "many" 401,.str "found" 402] ::
 kT [] ::
 kB "read_numbers" 29 ::
 kC "read_numbers" "read_numbers" 397 398 399 107 2 3 162 158 181 159 .none (.ref 160) (.ref 161) 403 107 404 ::
 kG "read_numbers" 29 (.str "mainskeep.texts" 377) 163 ::
 kT [] ::
 kN [] ::
 kT [.str "words" 409] ::
 kT [] ::
 kB "read_net" 30 ::
 kC "read_net" "read_net" 406 407 408 112 1 3 169 165 181 166 .none (.ref 167) (.ref 168) 410 112 411 ::
 kG "read_net" 30 (.str "mainskeep.texts" 377) 170 ::
 kT [] ::
 kN [] ::
 kT [.str "words" 416] ::
 kT [] ::
 kB "read_line" 31 ::
 kC "read_line" "read_line" 413 414 415 114 1 3 176 172 181 173 .none (.ref 174) (.ref 175) 417 114 418 ::
 kG "read_line" 31 (.str "mainskeep.texts" 377) 177 ::
 kT [] ::
 kN [] ::
 kB "read_work" 32 ::
 kC "read_work" "read_work" 420 421 422 116 1 3 181 179 181 180 .none .none .none 423 116 424 ::
 kG "read_work" 32 (.str "mainskeep.texts" 377) 182 ::
 kT [] ::
 kN [] ::
 kT [.str "words" 429] ::
 kT [] ::
 kB "read_store" 33 ::
 kC "read_store" "read_store" 426 427 428 122 1 3 188 184 181 185 .none (.ref 186) (.ref 187) 430 122 431 ::
 kG "read_store" 33 (.str "mainskeep.texts" 377) 189 ::
 kT [] ::
 kN [] ::
 kB "read_hour" 34 ::
 kC "read_hour" "read_hour" 433 434 435 124 1 3 193 191 181 192 .none .none .none 436 124 437 ::
 kG "read_hour" 34 (.str "mainskeep.texts" 377) 194 ::
 kT [.str "net" 439,.str "line" 440,.str "work" 441,.str "store" 442,.str "hour" 443] ::
 ⟨.type "dict",none,.dict [kE P "net" 445 (.ref 171),kE P "line" 446 (.ref 178),kE P "work" 447 (.ref 183),kE P "store" 448 (.ref 190),kE P "hour" 449 (.ref 195)].toArray 5,#[]⟩ ::
 kT [] ::
 kN [] ::
 kB "read_rows" 37 ::
 kC "read_rows" "read_rows" 456 457 458 128 1 3 200 198 181 199 .none .none .none 459 128 460 ::
 kG "read_rows" 37 (.str "mainskeep.texts" 377) 201 ::
 kT [] ::
 kN [] ::
 kT [.str "text" 465,.str "found" 466,.str "store" 467,.str "house" 468] ::
 kT [] ::
 kB "read_house" 38 ::
 kC "read_house" "read_house" 462 463 464 141 1 3 207 203 181 204 .none (.ref 205) (.ref 206) 469 141 470 ::
 kG "read_house" 38 (.str "mainskeep.texts" 377) 208 ::
 kT [] ::
 kN [] ::
 kT [.str "_law_script" 477,.str "_law_at" 478,.str "_law_cell" 479,.str "_law_mix" 480,.str "_law_k" 481] ::
 kT [] ::
 kB "_law_bag" 40 ::
 kC "_law_bag" "_law_bag" 474 475 476 151 2 3 214 210 181 211 .none (.ref 212) (.ref 213) 482 151 483 ::
 kG "_law_bag" 40 (.str "law_mainskeep_k70_houses_written" 472) 215 ::
 kT [] ::
 kN [] ::
 kT [.str "_law_bag_here" 488,.str "_law_many" 489,.str "_law_digit" 490] ::
 kT [] ::
 kB "_law_take" 41 ::
 kC "_law_take" "_law_take" 485 486 487 161 2 3 221 217 181 218 .none (.ref 219) (.ref 220) 491 161 492 ::
 kG "_law_take" 41 (.str "law_mainskeep_k70_houses_written" 472) 222 ::
 kT [] ::
 kN [] ::
 kB "_law_net" 42 ::
 kC "_law_net" "_law_net" 494 495 496 168 2 3 226 224 181 225 .none .none .none 497 168 498 ::
 kG "_law_net" 42 (.str "law_mainskeep_k70_houses_written" 472) 227 ::
 kT [] ::
 kN [] ::
 kT [.str "_law_bag_here" 503,.str "_law_many" 504,.str "_law_place" 505,.str "_law_least" 506,.str "_law_pieces" 507,.str "_law_keep" 508,.str "_law_start" 509,.str "_law_was" 510] ::
 kT [] ::
 kB "_law_work" 43 ::
 kC "_law_work" "_law_work" 500 501 502 177 2 3 233 229 181 230 .none (.ref 231) (.ref 232) 511 177 512 ::
 kG "_law_work" 43 (.str "law_mainskeep_k70_houses_written" 472) 234 ::
 kT [] ::
 kN [] ::
 kT [.str "_law_bag_here" 517,.str "_law_many" 518,.str "_law_found" 519,.str "_law_k" 520,.str "_law_worth" 521] ::
 kT [] ::
 kB "_law_wants" 44 ::
 kC "_law_wants" "_law_wants" 514 515 516 187 2 3 240 236 181 237 .none (.ref 238) (.ref 239) 522 187 523 ::
 kG "_law_wants" 44 (.str "law_mainskeep_k70_houses_written" 472) 241 ::
 kT [] ::
 kN [] ::
 kT [.str "_law_bag_here" 528,.str "_law_many" 529,.str "_law_top" 530,.str "_law_taken" 531] ::
 kT [] ::
 kB "_law_store" 45 ::
 kC "_law_store" "_law_store" 525 526 527 193 2 3 247 243 181 244 .none (.ref 245) (.ref 246) 532 193 533 ::
 kG "_law_store" 45 (.str "law_mainskeep_k70_houses_written" 472) 248 ::
 kT [] ::
 kN [] ::
 kB "_law_house" 46 ::
 kC "_law_house" "_law_house" 535 536 537 199 1 3 252 250 181 251 .none .none .none 538 199 539 ::
 kG "_law_house" 46 (.str "law_mainskeep_k70_houses_written" 472) 253 ::
 kT [] ::
 kN [] ::
 kB "_law_text" 47 ::
 kC "_law_text" "_law_text" 541 542 543 210 1 3 257 255 181 256 .none .none .none 544 210 545 ::
 kG "_law_text" 47 (.str "law_mainskeep_k70_houses_written" 472) 258 ::
 kT [] ::
 kN [] ::
 kB "_law_is_plain" 48 ::
 kC "_law_is_plain" "_law_is_plain" 547 548 549 224 1 3 262 260 181 261 .none .none .none 550 224 551 ::
 kG "_law_is_plain" 48 (.str "law_mainskeep_k70_houses_written" 472) 263 ::
 kT [] ::
 kN [] ::
 kB "law" 49 ::
 kC "law" "law" 553 554 555 228 1 3 267 265 181 266 .none .none .none 556 228 557 ::
 kG "law" 49 (.str "law_mainskeep_k70_houses_written" 472) 268 ::
 []
noncomputable def addrs:List Addr:=[2,3,57,58,64,65,71,72,78,79,83,84,88,89,95,96,100,101,107,108,114,115,121,122,126,127,131,132,136,137,141,142,146,147,151,152,156,157,163,164,170,171,177,178,182,183,189,190,194,195,196,197,201,202,208,209,215,216,222,223,227,228,234,235,241,242,248,249,253,254,258,259,263,264,268,269]
theorem jE:∀ P,addrs=(heap P).map (·.1):=fun _=>by kernel_rfl
noncomputable def q:Program:={ PySem.Challenge.pw_mainskeep_k70_houses_written with main:={ PySem.Challenge.pw_mainskeep_k70_houses_written.main with body:=[1,2,3,5,6,7,9,10,11,13,14,15,16,17,18,19,21,22,23,24,26,27,28,29,30,31,32,33,34,35,36,37,38,40,41,42,43,44,45,46,47,48,49].filterMap fun i=>PySem.Challenge.pw_mainskeep_k70_houses_written.main.body[i]? } }
theorem Hl {p:Program} {w:World} {N:Nat} {A:Type} {f:Shared->A} {a:A} {x:Heap} {g:Array GenState} {d:Drawn} {k:Nat} (o:(PySem.W.fencedOpening treeTable p w N).map (fun s=>(s.heap,s.gens,s.drawn,s.toks))=some (x,g,d,k)) (r:∀ os,(PySem.W.topFrom treeTable p w N ⟨x,g,d,k,os⟩).map f=some a):(PySem.W.openEnds treeTable p w N).map f=some a:=by
 unfold PySem.W.openEnds
 cases e:PySem.W.fencedOpening treeTable p w N with
 | none=>rw [e] at o;cases o
 | some s=>
  rw [e] at o
  cases s
  cases o
  exact r _
noncomputable abbrev fin (w:World) (os:OsState):Shared:=⟨⟨(objs w.params).toArray,{}⟩,Array.mk [],PySem.W.boot_drawn,nat_lit 559,os⟩
noncomputable abbrev Ran (w:World):Prop:=∀ os:OsState,PySem.W.topFrom treeTable PySem.Challenge.pw_mainskeep_k70_houses_written w 1914 ⟨PySem.W.boot_heap w.params,Array.mk [],PySem.W.boot_drawn,PySem.W.boot_toks,os⟩=some (fin w os)
open PyProof.Rows PySem.W
set_option maxHeartbeats 0 in
theorem Wy:∀ w:World,Ran (w.withFollow "special-get-raises" false):=fun w os=>by kernel_rfl
set_option maxHeartbeats 0 in
theorem Wz:∀ w:World,Ran (w.withFollow "special-get-raises" true):=fun w os=>by kernel_rfl
theorem ran:∀ w:World,Ran w:=byRow2 "special-get-raises" Wy Wz
theorem Ob:∀ (w:World) (os:OsState),openSeen q ["READERS"] (importedModules PySem.Challenge.pw_mainskeep_k70_houses_written.main.body) (fun s=>xlAt q [] s&&recOk (PySem.Challenge.rw_mainskeep_k70_houses_written.row.toRowW.records) s) true (fin w os)=openGood q ["READERS"]:=fun w os=>by kernel_rfl
theorem Vt:∀ (w:World) (os:OsState),Hook.obs (kHook heap addrs jE) (fin w os)=Hook.val (kHook heap addrs jE) w:=fun w os=>by kernel_rfl
theorem left:LeftO PySem.Challenge.pw_mainskeep_k70_houses_written q ["READERS"] (fun s=>xlAt q [] s&&recOk (PySem.Challenge.rw_mainskeep_k70_houses_written.row.toRowW.records) s) (Hook.obs (kHook heap addrs jE)) (Hook.val (kHook heap addrs jE)) 1914:=fun w=>
 Hl (boot_open (by kernel_rfl) (by kernel_rfl) (fun s=>by rfl) w) fun os=>(congrArg _ (ran w os)).trans (congrArg some (congr (congrArg Prod.mk (Ob w os)) (Vt w os)))
theorem said:PySem.Challenge.rw_mainskeep_k70_houses_written.wellSaid=true:=by kernel_rfl
noncomputable def sX:DefRec:=⟨"law",jy (top 49),fY (top 49),aF (top 49),Qq (top 49)⟩
theorem Mp:PySem.W.defOf q PySem.Challenge.rw_mainskeep_k70_houses_written.row.toRowW.name=some (sX,[]):=by kernel_rfl
theorem Mq:PySem.Challenge.rw_mainskeep_k70_houses_written.row.prog.theDef PySem.Challenge.rw_mainskeep_k70_houses_written.row.name=some (sX.params,sX.body,sX.scope):=by kernel_rfl
end K70
namespace L2
open PySem PySem.Spec PyProof.Rows
noncomputable abbrev Key:=Sum Int Str
noncomputable def vq:Key->Value->Bool
 | .inl k,v=>Value.isInt k v
 | .inr x,v=>Value.isStrOf x v
noncomputable def Wu (w:World):Key->Int
 | .inl k=>hashInt k
 | .inr x=>hashStr w x
theorem dJ:∀ {k:Key} {v:Value},vq k v=true->(∃ i t,k=Sum.inl i∧v=Value.int i t)∨(∃ x t,k=Sum.inr x∧v=Value.str x t)
 | .inl i,v,h=>by
  obtain ⟨t,e⟩:=Value.isInt_shape (k:=i) (v:=v) h
  exact .inl ⟨i,t,rfl,e⟩
 | .inr x,v,h=>by
  obtain ⟨t,e⟩:=Value.isStrOf_shape (x:=x) (v:=v) h
  exact .inr ⟨x,t,rfl,e⟩
theorem Ff (i:Int) (t:Tok):vq (.inl i) (.int i t)=true:=by simp [vq,Value.isInt]
theorem qe (x:Str) (t:Tok):vq (.inr x) (.str x t)=true:=by simp [vq,Value.isStrOf]
theorem QQ (a b:Int):decide ((Sum.inl a:Key)=Sum.inl b)=(a==b):=by
 by_cases e:a=b
 ·subst e;simp
 ·have h:¬ (Sum.inl a:Key)=Sum.inl b:=fun q=>e (Sum.inl.inj q)
  rw [decide_eq_false h]
  exact (beq_eq_false_iff_ne.mpr e).symm
theorem QT (a b:Str):decide ((Sum.inr a:Key)=Sum.inr b)=decide (a=b):=by
 by_cases e:a=b
 ·subst e;simp
 ·have h:¬ (Sum.inr a:Key)=Sum.inr b:=fun q=>e (Sum.inr.inj q)
  rw [decide_eq_false h,decide_eq_false e]
theorem QR (a:Int) (b:Str):decide ((Sum.inl a:Key)=Sum.inr b)=false:=decide_eq_false (fun q=>nomatch q)
theorem QS (a:Str) (b:Int):decide ((Sum.inr a:Key)=Sum.inl b)=false:=decide_eq_false (fun q=>nomatch q)
noncomputable def dB (prog:Program) (w:World):PySem.KeyKind prog w Key where
 is:=vq
 hash:=Wu w
 inj:=fun v a b ha hb=>by
  rcases dJ ha with ⟨i,t,rfl,rfl⟩ | ⟨x,t,rfl,rfl⟩
  ·rcases dJ hb with ⟨j,u,rfl,e⟩ | ⟨y,u,rfl,e⟩
   ·injection e with e1 _;rw [e1]
   ·exact nomatch e
  ·rcases dJ hb with ⟨j,u,rfl,e⟩ | ⟨y,u,rfl,e⟩
   ·exact nomatch e
   ·injection e with e1 _;rw [e1]
 byValue:=fun k v h=>by
  rcases dJ h with ⟨i,t,rfl,rfl⟩ | ⟨x,t,rfl,rfl⟩ <;> rfl
 pyHash:=fun hv h=>by
  rcases dJ hv with ⟨i,t,rfl,rfl⟩ | ⟨x,t,rfl,rfl⟩
  ·exact wpAny_pyHash_int h
  ·exact wpAny_pyHash_str h
 eqBool:=fun hu hv h=>by
  rcases dJ hu with ⟨i,t,rfl,rfl⟩ | ⟨x,t,rfl,rfl⟩
  ·rcases dJ hv with ⟨j,u,rfl,rfl⟩ | ⟨y,u,rfl,rfl⟩
   ·rw [QQ] at h;exact wpAny_eqBool_int h
   ·rw [QR] at h;exact SeqAt.EqAt.int_str i t y u _ _ _ _ h
  ·rcases dJ hv with ⟨j,u,rfl,rfl⟩ | ⟨y,u,rfl,rfl⟩
   ·rw [QS] at h;exact SeqAt.EqAt.str_int x t j u _ _ _ _ h
   ·rw [QT] at h;exact wpAny_eqBool_str h
 «strs»:=fun k x t v h=>by
  rcases dJ h with ⟨i,u,rfl,e⟩ | ⟨y,u,rfl,e⟩
  ·exact nomatch e
  ·injection e with e1 _
   subst e1
   cases v <;> rfl
theorem zf (prog:Program) (w:World) (i:Int) (t:Tok):(dB prog w).is (.inl i) (.int i t)=true:=Ff i t
theorem mC (prog:Program) (w:World) (x:Str) (t:Tok):(dB prog w).is (.inr x) (.str x t)=true:=qe x t
inductive V where
 | non | bl (b:Bool) | int (i:Int) | str (x:Str) | byt (b:Array UInt8) | flt (b:UInt64) | ref (a:Addr) | ty (n:String)
 deriving DecidableEq
noncomputable def RelV:V->Value->Prop
 | .non,u=>u=Value.none
 | .bl b,u=>u=Value.bool b
 | .int i,u=>∃ t,u=Value.int i t
 | .str x,u=>∃ t,u=Value.str x t
 | .byt b,u=>∃ t,u=Value.bytes b t
 | .flt b,u=>∃ t,u=Value.float b t
 | .ref a,u=>u=Value.ref a
 | .ty n,u=>u=Value.type n
noncomputable abbrev Vals:List V->List Value->Prop:=Paired RelV
theorem Vals.length {xs:List V} {us:List Value} (r:Vals xs us):xs.length=us.length:=Paired.length r
theorem Vals.get:∀ {xs:List V} {us:List Value} {i:Nat} {x:V},Vals xs us->xs[i]? = some x -> ∃ u,us[i]? = some u∧RelV x u
 | _,_,_,_,.nil,e=>by simp at e
 | _,_,0,_,.cons r _,e=>by simp at e;subst e;exact ⟨_,rfl,r⟩
 | _,_,i+1,x,.cons _ t,e=>by
  obtain ⟨u,h1,h2⟩:=Vals.get (i:=i) (x:=x) t (by simpa using e)
  exact ⟨u,by simpa using h1,h2⟩
theorem Vals.set {x:V} {u:Value} (r:RelV x u):∀ {xs:List V} {us:List Value} (i:Nat),Vals xs us->Vals (xs.set i x) (us.set i u)
 | _,_,_,.nil=>.nil
 | _,_,0,.cons _ t=>.cons r t
 | _,_,i+1,.cons q t=>.cons q (Vals.set r i t)
theorem Vals.append:∀ {xs ys:List V} {us ws:List Value},Vals xs us->Vals ys ws->Vals (xs++ys) (us++ws)
 | _,_,_,_,.nil,s=>s
 | _,_,_,_,.cons r t,s=>.cons r (Vals.append t s)
theorem Vals.take:∀ {xs:List V} {us:List Value} (n:Nat),Vals xs us->Vals (xs.take n) (us.take n)
 | _,_,0,_=>.nil
 | _,_,_+1,.nil=>.nil
 | _,_,n+1,.cons r t=>.cons r (Vals.take n t)
theorem Vals.drop:∀ {xs:List V} {us:List Value} (n:Nat),Vals xs us->Vals (xs.drop n) (us.drop n)
 | _,_,0,r=>r
 | _,_,_+1,.nil=>.nil
 | _,_,n+1,.cons _ t=>Vals.drop n t
noncomputable def vN:Option V->Option Value->Prop
 | some v,some u=>RelV v u
 | none,none=>True
 | _,_=>False
noncomputable def KV {κ : Type}:List (κ × V)->List (κ × Value)->Prop:=Paired fun (p : κ × V) (q : κ × Value)=>p.1=q.1∧RelV p.2 q.2
noncomputable def kV:Key->V
 | .inl i=>.int i
 | .inr x=>.str x
inductive HO where
 | lst (xs:List V)
 | tup (xs:List V)
 | dK (kvs:List (Key×V)) | dT (kvs:List (List Key×V))
 | set (S:Int->Bool) (n:Nat)
 | ins (C dx:Addr) (fs:List (Str×V))
 | own (x:Addr)
 | xd (fs:List (Str×V))
 | met (f x:Addr)
 | rng (lo hi:Int)
 | frz (o:Obj) (u:HO)
 | tbl (ps:Array Value)
 | ext (φ : Heap->Prop)
noncomputable abbrev Hp:=Addr->Option HO
noncomputable def upd (H:Hp) (a:Addr) (o:HO):Hp:=fun b=>if b=a then some o else H b
theorem cJ {H:Hp} {a:Addr} {o:HO}:upd H a o a=some o:=by unfold upd;rw [if_pos rfl]
theorem bf {H:Hp} {a b:Addr} {o:HO} (h:b≠a):upd H a o b=H b:=by unfold upd;rw [if_neg h]
theorem bI {H:Hp} {a b:Addr} {o:HO} (h:H a=some o) (h':H b=none):a≠b:=by
 intro e;subst e;rw [h] at h';cases h'
section
variable (P:Program) (w:World)
noncomputable def fP (H:Hp) (h:Heap) (a:Addr):HO->Prop
 | .lst xs=>xs.length<=sizeLine ∧ ∃ (its:List Value) (n:Nat),Vals xs its∧h.get? a=some { cls:=.type "list",data:=.seq its.toArray n }
 | .tup xs=>xs.length<=sizeLine ∧ ∃ its:List Value,Vals xs its∧IsTup h a its.toArray
 | .dK kvs=>kvs.length<=sizeLine∧(a==sysModules)=false ∧ ∃ vs,KV kvs vs∧h.DictOf (dB P w) a vs
 | .dT kvs=>kvs.length<=sizeLine∧(a==sysModules)=false ∧ ∃ xs:List (List Key×Addr×Value),
   Paired (fun (p:List Key×V) (q:List Key×Addr×Value)=>p.1=q.1∧H q.2.1=some (.tup (p.1.map kV))∧RelV p.2 q.2.2) kvs xs ∧
   ∃ o es ep,h.get? a=some o∧o.ExactDict∧o.data = .dict es ep∧es.toList=xs.map (entryOfKey (tupleKind (dB P w)))∧(xs.map (·.1)).Nodup
 | .set S n=>h.SetOf (intKind P w) a S n
 | .ins C dx fs=>H dx=some (.own a)∧fs.length<=1000∧dx≠a∧h.get? a=some (PySem.W.instObj C dx) ∧
   ∃ mA,h.Ns1 dx mA∧(∀ f,vN (fs.lookup f) (mA f))∧PySem.Within mA (fs.map (·.1))
 | .own _=>∃ o,h.get? a=some o
 | .xd fs=>∃ mA,h.Ns1 a mA ∧ ∀ f,vN (fs.lookup f) (mA f)
 | .rng lo hi=>∃ t u v,h.get? a=some { cls:=.type "range",data:=.fields #[.int lo t,.int hi u,.int 1 v] }
 | .frz o u=>h.get? a=some o∧fP H h a u
 | .tbl ps=>h.get? a=some { cls:=.none,data:=.fields ps }
 | .met f x=>h.get? a=some (PySem.W.methodObj (.ref f) (.ref x))
 | .ext φ => φ h∧(∃ o,h.get? a=some o) ∧ ∀ h1 h2:Heap,φ h1->(∀ o,h1.get? a=some o->h2.get? a=some o) -> φ h2
noncomputable def HOk (H:Hp) (h:Heap):Prop:=∀ a o,H a=some o->fP P w H h a o
end
section
variable {P:Program} {w:World} {H H':Hp} {h h':Heap} {a:Addr} {o:HO}
theorem fP.lt (x:fP P w H h a o):a<h.objs.size:=by
 cases o with
 | lst xs=>obtain ⟨_,_,_,_,e⟩:=x;exact Heap.lt_size e
 | tup xs=>obtain ⟨_,_,_,p⟩:=x;exact p.lt
 | dK kvs=>obtain ⟨_,_,_,_,o,_,_,e,_⟩:=x;exact Heap.lt_size e
 | dT kvs=>obtain ⟨_,_,_,_,o,_,_,e,_⟩:=x;exact Heap.lt_size e
 | set S n=>obtain ⟨o,_,_,_,e,_⟩:=x;exact Heap.lt_size e
 | ins C dx fs=>obtain ⟨_,_,_,e,_⟩:=x;exact Heap.lt_size e
 | own y=>obtain ⟨_,e⟩:=x;exact Heap.lt_size e
 | xd fs=>obtain ⟨_,⟨_,_,_,e,_⟩,_⟩:=x;exact Heap.lt_size e
 | rng lo hi=>obtain ⟨_,_,_,e⟩:=x;exact Heap.lt_size e
 | frz ob u=>obtain ⟨e,_⟩:=x;exact Heap.lt_size e
 | tbl ps=>exact Heap.lt_size (show h.get? a=some _ from x)
 | met f y=>exact Heap.lt_size (show h.get? a=some _ from x)
 | ext φ => obtain ⟨_,⟨_,e⟩,_⟩:=x;exact Heap.lt_size e
theorem Paired.mapP {α β : Type} {F G : α -> β -> Prop}:∀ {l₁ : List α} {l₂ : List β},Paired F l₁ l₂ -> (∀ a b,F a b->G a b)->Paired G l₁ l₂
 | _,_,.nil,_=>.nil
 | _,_,.cons r t,f=>.cons (f _ _ r) (Paired.mapP t f)
theorem fP.stay (x:fP P w H h a o) (k:∀ b u,(b=a∨H b=some (.own a))->h.get? b=some u->h'.get? b=some u)
  (ho:∀ b,H b=some (.own a)->H' b=some (.own a)) (ht:∀ b xs,H b=some (.tup xs)->H' b=some (.tup xs)):fP P w H' h' a o:=by
 induction o with
 | lst xs=>obtain ⟨z,its,n,r,e⟩:=x;exact ⟨z,its,n,r,k _ _ (.inl rfl) e⟩
 | tup xs=>obtain ⟨z,its,r,ob,e,c⟩:=x;exact ⟨z,its,r,ob,k _ _ (.inl rfl) e,c⟩
 | dK kvs=>obtain ⟨z,y,vs,r,ob,es,ep,e,c⟩:=x;exact ⟨z,y,vs,r,ob,es,ep,k _ _ (.inl rfl) e,c⟩
 | dT kvs=>
  obtain ⟨z,y,xs,r,ob,es,ep,e,c⟩:=x
  exact ⟨z,y,xs,Paired.mapP r fun p q z=>⟨z.1,ht _ _ z.2.1,z.2.2⟩,ob,es,ep,k _ _ (.inl rfl) e,c⟩
 | set S n=>obtain ⟨ob,es,ep,t,e,c⟩:=x;exact ⟨ob,es,ep,t,k _ _ (.inl rfl) e,c⟩
 | ins C dx fs=>
  obtain ⟨d,z,ne,e,mA,⟨od,es,ep,e2,c⟩,r⟩:=x
  exact ⟨ho _ d,z,ne,k _ _ (.inl rfl) e,mA,⟨od,es,ep,k _ _ (.inr d) e2,c⟩,r⟩
 | own y=>obtain ⟨ob,e⟩:=x;exact ⟨ob,k _ _ (.inl rfl) e⟩
 | xd fs=>obtain ⟨mA,⟨od,es,ep,e,c⟩,r⟩:=x;exact ⟨mA,⟨od,es,ep,k _ _ (.inl rfl) e,c⟩,r⟩
 | rng lo hi=>obtain ⟨t,u,v,e⟩:=x;exact ⟨t,u,v,k _ _ (.inl rfl) e⟩
 | frz ob u ih=>obtain ⟨e,q⟩:=x;exact ⟨k _ _ (.inl rfl) e,ih q⟩
 | tbl ps=>
  have e:h.get? a=some { cls:=.none,data:=.fields ps }:=x
  show h'.get? a=some { cls:=.none,data:=.fields ps }
  exact k a _ (.inl rfl) e
 | met f y=>
  have e:h.get? a=some (PySem.W.methodObj (.ref f) (.ref y)):=x
  show h'.get? a=some (PySem.W.methodObj (.ref f) (.ref y))
  exact k a _ (.inl rfl) e
 | ext φ => obtain ⟨p,⟨o,e⟩,st⟩:=x;exact ⟨st _ _ p fun o q=>k _ _ (.inl rfl) q,⟨o,k _ _ (.inl rfl) e⟩,st⟩
theorem HOk.lt (x:HOk P w H h) (e:H a=some o):a<h.objs.size:=(x a o e).lt
theorem HOk.fresh (x:HOk P w H h) (e:h.objs.size<=a):H a=none:=by
 cases q:H a with
 | none=>rfl
 | some u=>exact absurd (Nat.lt_of_lt_of_le (x.lt q) e) (Nat.lt_irrefl _)
theorem HOk.kept (x:HOk P w H h) (k:∀ b u,h.get? b=some u->h'.get? b=some u):HOk P w H h':=fun a o e=>
 (x a o e).stay (fun b u _ q=>k b u q) (fun _ q=>q) fun _ _ q=>q
theorem HOk.laid (x:HOk P w H h) (k:∀ b u,h.get? b=some u->h'.get? b=some u) (hp:h.objs.size<=a) (new:fP P w (upd H a o) h' a o):HOk P w (upd H a o) h':=fun b u e=>by
 have hn:=x.fresh hp
 by_cases hb:b=a
 ·subst hb;rw [cJ] at e;cases e;exact new
 ·rw [bf hb] at e
  exact (x b u e).stay (fun c v _ q=>k c v q) (fun c q=>by rw [bf (bI q hn)];exact q) fun c xs q=>by rw [bf (bI q hn)];exact q
end
noncomputable def Rd (H:Hp) (a:Addr) (u:HO):Prop:=H a=some u ∨ ∃ o,H a=some (.frz o u)
theorem Rd.ok {P:Program} {w:World} {H:Hp} {h:Heap} {a:Addr} {u:HO} (r:Rd H a u) (x:HOk P w H h):fP P w H h a u:=by
 rcases r with r | ⟨o,r⟩
 ·exact x a u r
 ·obtain ⟨_,q⟩:=x a _ r
  exact q
noncomputable def Mut:Option HO->Prop
 | some (.lst _)=>True
 | some (.dK _)=>True
 | some (.dT _)=>True
 | some (.set _ _)=>True
 | some (.ins _ _ _)=>True
 | some (.ext _)=>True
 | _=>False
section
variable {P:Program} {w:World} {H:Hp} {h h':Heap} {x e:Addr} {o':HO}
theorem HOk.write (ok:HOk P w H h) (mu:Mut (H x)) (he:e=x∨H e=some (.own x)) (k:∀ b u,b≠e->h.get? b=some u->h'.get? b=some u) (heo:∃ u,h'.get? e=some u)
  (new:fP P w (upd H x o') h' x o'):HOk P w (upd H x o') h':=fun b u q=>by
 have nown:∀ c y,H c=some (.own y)->c≠x:=fun c y r z=>by subst z;rw [r] at mu;exact mu
 have ntup:∀ c xs,H c=some (.tup xs)->c≠x:=fun c xs r z=>by subst z;rw [r] at mu;exact mu
 by_cases hb:b=x
 ·subst hb;rw [cJ] at q;cases q;exact new
 ·rw [bf hb] at q
  by_cases hbe:b=e
  ·have q':H b=some (.own x):=by
    rcases he with z | z
    ·exact absurd (hbe.trans z) hb
    ·rw [hbe];exact z
   rw [q] at q';cases q'
   obtain ⟨v,hv⟩:=heo
   exact ⟨v,by rw [hbe];exact hv⟩
  ·refine (ok b u q).stay (fun c v hc r=>k c v ?_ r) (fun c r=>by rw [bf (nown c b r)];exact r) fun c xs r=>by rw [bf (ntup c xs r)];exact r
   rcases hc with rfl | hc
   ·exact hbe
   ·rintro rfl
    rcases he with z | z
    ·exact nown c b hc z
    ·rw [hc] at z;cases z;exact hb rfl
end
structure Un (fs ex:List Addr) (H H':Hp) (h h':Heap):Prop where
 keep:∀ b o,h.get? b=some o->H b=none->b ∉ fs->b ∉ ex->h'.get? b=some o
 slot:∀ b o,h.get? b=some o->H b=none->b∈fs->b ∉ ex -> ∃ sl,h'.get? b=some { o with slots:=sl }
 free:∀ b o,h.get? b=some o->H b=none->b ∉ ex->H' b=none
 there:∀ b o,h.get? b=some o->b ∉ ex -> ∃ o',h'.get? b=some o'
 tups:∀ b xs,H b=some (.tup xs)->H' b=some (.tup xs)
 frzs:∀ b o u,H b=some (.frz o u)->H' b=some (.frz o u)
 tbls:∀ b ps,H b=some (.tbl ps) -> ∃ more,H' b=some (.tbl (ps++more))
section
variable {fs fs' ex ex':List Addr} {H H1 H2:Hp} {h h1 h2 h':Heap} {a x e:Addr} {o:HO}
theorem Un.any (u:Un fs ex H H1 h h1) {b:Addr} {ob:Obj} (q:h.get? b=some ob) (n:H b=none) (hx:b ∉ ex):∃ sl,h1.get? b=some { ob with slots:=sl }:=by
 by_cases hb:b∈fs
 ·exact u.slot b ob q n hb hx
 ·exact ⟨ob.slots,u.keep b ob q n hb hx⟩
theorem Un.kept (k:∀ b u,h.get? b=some u->h'.get? b=some u):Un fs ex H H h h':=
 ⟨fun b ob q _ _ _=>k b ob q,fun b ob q _ _ _=>⟨ob.slots,k b ob q⟩,fun _ _ _ n _=>n,fun b ob q _=>⟨ob,k b ob q⟩,fun _ _ q=>q,fun _ _ _ q=>q,fun _ ps q=>⟨#[],by rw [q];simp⟩⟩
theorem Un.refl:Un fs ex H H h h:=Un.kept fun _ _ q=>q
theorem Un.laid (k:∀ b u,h.get? b=some u->h'.get? b=some u) (hp:h.objs.size<=a) (hn:H a=none):Un fs ex H (upd H a o) h h' where
 keep:=fun b u q _ _ _=>k b u q
 slot:=fun b u q _ _ _=>⟨u.slots,k b u q⟩
 free:=fun b u q n _=>by rw [bf (Nat.ne_of_lt (Nat.lt_of_lt_of_le (Heap.lt_size q) hp))];exact n
 there:=fun b u q _=>⟨u,k b u q⟩
 tups:=fun b xs q=>by rw [bf (bI q hn)];exact q
 frzs:=fun b u xs q=>by rw [bf (bI q hn)];exact q
 tbls:=fun b ps q=>⟨#[],by rw [bf (bI q hn),q];simp⟩
theorem Un.write (mu:Mut (H x)) (he:e=x∨H e=some (.own x)) (k:∀ b u,b≠e->h.get? b=some u->h'.get? b=some u) (heo:∃ u,h'.get? e=some u):Un fs ex H (upd H x o) h h':=by
 have hx:∀ b,H b=none->b≠x:=fun b n z=>by subst z;rw [n] at mu;exact mu
 have hb:∀ b,H b=none->b≠e:=fun b n z=>by
  subst z
  rcases he with r | r
  ·exact hx b n r
  ·rw [n] at r;cases r
 have hm:∀ b u,H b=some u -> ¬ Mut (some u)->b≠x:=fun b u q nm z=>by subst z;rw [q] at mu;exact nm mu
 refine ⟨fun b u q n _ _=>k b u (hb b n) q,fun b u q n _ _=>⟨u.slots,k b u (hb b n) q⟩,fun b u q n _=>by rw [bf (hx b n)];exact n,fun b u q _=>?_,
  fun b xs q=>by rw [bf (hm b _ q fun z=>z)];exact q,fun b u xs q=>by rw [bf (hm b _ q fun z=>z)];exact q,fun b ps q=>⟨#[],by rw [bf (hm b _ q fun z=>z),q];simp⟩⟩
 by_cases hbe:b=e
 ·subst hbe;exact heo
 ·exact ⟨u,k b u hbe q⟩
end
noncomputable def trk (h:Heap) (H:Hp):List Addr:=(List.range h.objs.size).filter fun a=>(H a).isSome
noncomputable def wy (h:Heap) (H:Hp):Heap:=PySem.W.hideAll h (trk h H)
theorem Ez (h:Heap) (H:Hp):(wy h H).objs.size=h.objs.size:=PySem.W.hideAll_size _ _
theorem Hr {h:Heap} {H:Hp} {b:Addr} {o:Obj} (e:h.get? b=some o) (n:H b=none):(wy h H).get? b=some o:=
 PySem.W.hideAll_get _ e fun hm=>by
  have q:(H b).isSome=true:=(List.mem_filter.mp hm).2
  rw [n] at q;simp at q
theorem MN {h:Heap} {H:Hp} {b:Addr} {o:Obj} (e:(wy h H).get? b=some o):h.get? b=some o∧H b=none:=by
 have e':h.get? b=some o:=PySem.W.of_hideAll (trk h H) e
 refine ⟨e',?_⟩
 cases q:H b with
 | none=>rfl
 | some x=>
  have hm:b∈trk h H:=List.mem_filter.mpr ⟨List.mem_range.mpr (Heap.lt_size e'),by simp [q]⟩
  have z:(wy h H).get? b=none:=PySem.W.hideAll_none (trk h H) hm
  rw [z] at e;cases e
noncomputable def Kr (g h:Heap) (L:Addr):List (Addr×Obj):=(List.range h.objs.size).filterMap fun a=>if a=L∨(g.get? a).isSome=true then none else (h.get? a).map fun o=>(a,o)
noncomputable def rest (g h:Heap) (L d:Addr):List (Addr×Obj):=(Kr g h L).filter fun p=>decide (p.1≠d)
structure Mod (K:PySem.W.Frag) (mg:Str->Option Value) (base:Heap):Prop where
 kin:K.In base
 glob:base.Ns mainGlobals mg
 blt:∃ mb,base.Ns builtinsNs mb ∧ ∀ x:Str,x ≠ "__name__" -> mb x=bootBuiltins x
 nolimit:base.NoLimit
 seer:base.NoSeer
structure Cx where
 prog:Program
 w:World
 K:PySem.W.Frag
 mg:Str->Option Value
 base:Heap
 A:Around
 N:List Str
 s₀ : Shared
 H₀ : Hp
 env:Env
 outer:List Env
 stack:List Env
 ex:List Addr
 fn:Str->Bool
 calm:Bool
 pn:List (Addr×Obj)
 xe:Value->Shared->Prop
noncomputable def frs (l:List Env):List Addr:=l.filterMap (·.frame)
noncomputable abbrev Cx.fs (X:Cx):List Addr:=frs X.outer
noncomputable def Vis (sc:Scope) (x:Str):Prop:=sc.names.lookup x=some .local∨sc.names.lookup x=some .cell∨sc.names.lookup x=some .free
noncomputable def Loc (sc:Scope) (x:Str):Prop:=sc.names.lookup x=some .local∨sc.names.lookup x=some .cell
noncomputable def Look (env:Env) (h:Heap) (m:Str->Option Value) (x:Str) (u:Value):Prop:=
 (env.kindOf x=some .local∧m x=some u)∨((env.kindOf x=some .cell∨env.kindOf x=some .free) ∧ ∃ c,env.cells.lookup x=some c∧h.IsCell c (some u))
structure Cx.Ok (X:Cx):Prop where
 mod:Mod X.K X.mg X.base
 kind:X.env.scope.kind = .function
 glob:X.env.globals=mainGlobals
 blt:X.env.builtins=builtinsNs
 above:X.s₀.heap.objs.size<=X.env.locals
 inj:∀ x y c,X.env.cells.lookup x=some c->X.env.cells.lookup y=some c->x=y
 has:∀ x,(X.env.kindOf x=some .cell∨X.env.kindOf x=some .free) -> ∃ c,X.env.cells.lookup x=some c
 cab:∀ x c,X.fn x=true->X.env.cells.lookup x=some c->X.s₀.heap.objs.size<=c
 hd:X.calm=true->X.A.handled=none
 frames:X.A.frames=some X.stack
 stk:X.stack=X.outer∨(X.stack=X.env :: X.outer∧X.env.frame=some X.env.locals)
 exf:∀ b∈X.ex,b≠X.env.locals ∧ ∀ x c,X.env.cells.lookup x=some c->c≠b
 bs:∀ b o,X.base.get? b=some o->X.s₀.heap.get? b=some o∧X.H₀ b=none
 bsz:X.base.objs.size<=X.s₀.heap.objs.size
 noex:∀ b o,X.base.get? b=some o->b ∉ X.ex
 exfs:∀ b∈X.ex,b ∉ X.fs
 funs:X.s₀.heap.FunFrames X.base X.outer
 frf:∀ b∈X.fs,X.H₀ b=none
structure Inv (X:Cx) (pins:List (Addr×Obj)) (σ : List (Option V)) (H:Hp) (s:Shared):Prop where
 ok:X.Ok
 os:s.os=X.s₀.os
 bare:AllBare s.gens
 base:Un X.fs X.ex X.H₀ H X.s₀.heap s.heap
 loc:∃ m,s.heap.Ns X.env.locals m ∧ ∀ (i:Nat) (x:Str) (v:V),X.N[i]? = some x -> σ[i]? = some (some v)->Vis X.env.scope x -> ∃ u,RelV v u∧Look X.env s.heap m x u
 cell:∀ x c,X.env.cells.lookup x=some c -> ∃ v,s.heap.IsCell c v
 free:H X.env.locals=none
 freeC:∀ x c,X.env.cells.lookup x=some c->H c=none
 pin:∀ p∈X.pn++pins,s.heap.get? p.1=some p.2∧H p.1=none∧p.1≠X.env.locals∧p.1 ∉ X.fs ∧ ∀ v,p.2.data ≠ .cell v
 hok:HOk X.prog X.w H s.heap
 len : σ.length=X.N.length
section
variable {X:Cx} {pins:List (Addr×Obj)} {σ : List (Option V)} {H H':Hp} {s:Shared} {h':Heap}
theorem Cx.Ok.nofr (ok:X.Ok) {b:Addr} {o:Obj} (e:X.base.get? b=some o):b ∉ X.fs:=fun hb=>by
 have:=(ok.funs.mem hb).1
 rw [e] at this;cases this
theorem Inv.bs (I:Inv X pins σ H s):∀ b o,X.base.get? b=some o->s.heap.get? b=some o∧H b=none:=fun b o e=>
 ⟨I.base.keep b o (I.ok.bs b o e).1 (I.ok.bs b o e).2 (I.ok.nofr e) (I.ok.noex b o e),I.base.free b o (I.ok.bs b o e).1 (I.ok.bs b o e).2 (I.ok.noex b o e)⟩
theorem Inv.bk (I:Inv X pins σ H s):∀ b o,X.base.get? b=some o->s.heap.get? b=some o:=fun b o e=>(I.bs b o e).1
theorem Inv.mod (I:Inv X pins σ H s):Mod X.K X.mg X.base:=I.ok.mod
theorem Inv.kIn (I:Inv X pins σ H s):X.K.In s.heap:=I.ok.mod.kin.keeps I.bk
theorem Inv.nolimit (I:Inv X pins σ H s):s.heap.NoLimit:=I.ok.mod.nolimit.keeps I.bk
theorem Inv.lt (I:Inv X pins σ H s):X.env.locals<s.heap.objs.size:=let ⟨_,hn,_⟩:=I.loc;hn.lt
theorem Inv.sz (I:Inv X pins σ H s):X.s₀.heap.objs.size<=s.heap.objs.size:=Nat.le_trans I.ok.above (Nat.le_of_lt I.lt)
theorem Inv.nofs (I:Inv X pins σ H s) {a:Addr} (h:s.heap.objs.size<=a):a ∉ X.fs:=fun hb=>by
 obtain ⟨_,o,ho,_⟩:=I.ok.funs.mem hb
 exact absurd (Nat.lt_of_lt_of_le (Heap.lt_size ho) (Nat.le_trans I.sz h)) (Nat.lt_irrefl _)
theorem Inv.cne (I:Inv X pins σ H s):∀ x c,X.env.cells.lookup x=some c->c≠X.env.locals:=fun x c e z=>by
 obtain ⟨v,o,ho,hd⟩:=I.cell x c e
 obtain ⟨m,⟨o',es,ep,ho',hd',_⟩,_⟩:=I.loc
 rw [z,ho'] at ho;cases ho;rw [hd'] at hd;cases hd
theorem Inv.funs (I:Inv X pins σ H s):s.heap.FunFrames X.base X.outer:=by
 have all:∀ (l:List Env),(∀ b∈frs l,b∈X.fs)->X.s₀.heap.FunFrames X.base l->s.heap.FunFrames X.base l:=by
  intro l
  induction l with
  | nil=>intro _ _;trivial
  | cons env r ih=>
   intro hs hl
   obtain ⟨hk,⟨L,o,hf,hn,ho,hd⟩,hr⟩:=hl
   have hL:L∈X.fs:=hs L (by unfold frs;rw [List.filterMap_cons,hf];exact List.mem_cons_self)
   obtain ⟨sl,e⟩:=I.base.slot L o ho (I.ok.frf L hL) hL fun z=>I.ok.exfs L z hL
   exact ⟨hk,⟨L,_,hf,hn,e,hd⟩,ih (fun b hb=>hs b (by unfold frs;rw [List.filterMap_cons,hf];exact List.mem_cons_of_mem _ hb)) hr⟩
 exact all X.outer (fun _ hb=>hb) I.ok.funs
theorem Inv.stack (I:Inv X pins σ H s):s.heap.FunFrames X.base X.stack:=by
 rcases I.ok.stk with e | ⟨e,hf⟩
 ·rw [e];exact I.funs
 ·rw [e]
  obtain ⟨m,hn,_⟩:=I.loc
  refine .cons (by rw [I.ok.kind];decide) hf hn ?_ I.funs
  exact Heap.get?_none_of_le (Nat.le_trans I.ok.bsz I.ok.above)
theorem Inv.stkSub (I:Inv X pins σ H s):∀ b∈frs X.stack,b∈X.env.locals :: X.fs:=fun b hb=>by
 rcases I.ok.stk with e | ⟨e,hf⟩
 ·rw [e] at hb;exact List.mem_cons_of_mem _ hb
 ·rw [e] at hb
  unfold frs at hb
  rw [List.filterMap_cons,hf] at hb
  exact hb
theorem Inv.stkFree (I:Inv X pins σ H s):∀ b∈frs X.stack,H b=none:=fun b hb=>by
 rcases List.mem_cons.mp (I.stkSub b hb) with e | hb
 ·rw [e];exact I.free
 ·obtain ⟨_,o,ho,_⟩:=I.ok.funs.mem hb
  exact I.base.free b o ho (I.ok.frf b hb) fun z=>I.ok.exfs b z hb
theorem Inv.step {g':Array GenState} {t':Nat} {d':Drawn} {ch:List Addr} (I:Inv X pins σ H s)
  (hch:∀ b∈ch,(b∈X.ex∨X.s₀.heap.objs.size<=b)∧b≠X.env.locals∧(∀ x c,X.env.cells.lookup x=some c->c≠b) ∧ ∀ p∈X.pn++pins,p.1≠b)
  (keep:∀ b o,b≠X.env.locals->b ∉ X.fs->b ∉ ch->s.heap.get? b=some o->H b=none->h'.get? b=some o)
  (slot:∀ b o,b≠X.env.locals->b∈X.fs->b ∉ ch->s.heap.get? b=some o->H b=none -> ∃ sl,h'.get? b=some { o with slots:=sl }) (free:∀ b o,b ∉ ch->s.heap.get? b=some o->H b=none->H' b=none)
  (there:∀ b o,b ∉ ch->s.heap.get? b=some o -> ∃ o',h'.get? b=some o')
  (tups:∀ b xs,H b=some (.tup xs)->H' b=some (.tup xs)) (frzs:∀ b o u,H b=some (.frz o u)->H' b=some (.frz o u)) (tbls:∀ b ps,H b=some (.tbl ps) -> ∃ more,H' b=some (.tbl (ps++more)))
  (ns:∀ m,s.heap.Ns X.env.locals m->h'.Ns X.env.locals m) (hok:HOk X.prog X.w H' h') (hg:AllBare g') :
  Inv X pins σ H' { s with heap:=h',gens:=g',drawn:=d',toks:=t' }:=by
 have neL:∀ b o,X.s₀.heap.get? b=some o->b≠X.env.locals:=fun b o e=>Nat.ne_of_lt (Nat.lt_of_lt_of_le (Heap.lt_size e) I.ok.above)
 have neC:∀ b o,X.s₀.heap.get? b=some o->b ∉ X.ex->b ∉ ch:=fun b o e hx hb=>by
  rcases (hch b hb).1 with z | z
  ·exact hx z
  ·exact absurd (Nat.lt_of_lt_of_le (Heap.lt_size e) z) (Nat.lt_irrefl _)
 have cellK:∀ x c,X.env.cells.lookup x=some c -> ∀ v,s.heap.IsCell c v->h'.IsCell c v:=fun x c e v hh1=>by
  obtain ⟨o,ho,hd⟩:=hh1
  have nch:c ∉ ch:=fun z=>(hch c z).2.2.1 x c e rfl
  by_cases hc:c∈X.fs
  ·obtain ⟨sl,q⟩:=slot c o (I.cne x c e) hc nch ho (I.freeC x c e)
   exact ⟨_,q,hd⟩
  ·exact ⟨o,keep c o (I.cne x c e) hc nch ho (I.freeC x c e),hd⟩
 refine ⟨I.ok,I.os,hg,⟨fun b o e n hb hx=>?_,fun b o e n hb hx=>?_,fun b o e n hx=>?_,fun b o e hx=>?_,fun b xs e=>tups b xs (I.base.tups b xs e),fun b o xs e=>frzs b o xs (I.base.frzs b o xs e),fun b ps e=>?_⟩,?_,fun x c e=>?_,?_,fun x c e=>?_,fun p hp=>?_,hok,I.len⟩
 ·exact keep b o (neL b o e) hb (neC b o e hx) (I.base.keep b o e n hb hx) (I.base.free b o e n hx)
 ·obtain ⟨sl,e1⟩:=I.base.slot b o e n hb hx
  obtain ⟨sl',e2⟩:=slot b _ (neL b o e) hb (neC b o e hx) e1 (I.base.free b o e n hx)
  exact ⟨sl',e2⟩
 ·obtain ⟨o',e1⟩:=I.base.there b o e hx
  exact free b o' (neC b o e hx) e1 (I.base.free b o e n hx)
 ·obtain ⟨o',e1⟩:=I.base.there b o e hx
  exact there b o' (neC b o e hx) e1
 ·obtain ⟨m1,e1⟩:=I.base.tbls b ps e
  obtain ⟨m2,e2⟩:=tbls b _ e1
  exact ⟨m1++m2,by rw [e2,Array.append_assoc]⟩
 ·obtain ⟨m,hn,hl⟩:=I.loc
  refine ⟨m,ns m hn,fun i x v e1 e2 e3=>?_⟩
  obtain ⟨u,r,l⟩:=hl i x v e1 e2 e3
  refine ⟨u,r,?_⟩
  rcases l with l | ⟨k,c,e,z⟩
  ·exact .inl l
  ·exact .inr ⟨k,c,e,cellK x c e _ z⟩
 ·obtain ⟨v,z⟩:=I.cell x c e
  exact ⟨v,cellK x c e v z⟩
 ·obtain ⟨m,⟨o,_,_,ho,_⟩,_⟩:=I.loc
  exact free _ o (fun z=>(hch _ z).2.1 rfl) ho I.free
 ·obtain ⟨v,o,ho,hd⟩:=I.cell x c e
  exact free c o (fun z=>(hch c z).2.2.1 x c e rfl) ho (I.freeC x c e)
 ·obtain ⟨e,n,ne,nf,d⟩:=I.pin p hp
  have nch:p.1 ∉ ch:=fun z=>(hch p.1 z).2.2.2 p hp rfl
  exact ⟨keep p.1 p.2 ne nf nch e n,free p.1 p.2 nch e n,ne,nf,d⟩
theorem Inv.un {t':Nat} (I:Inv X pins σ H s) (u:Un X.fs [] H H' s.heap h') (hok:HOk X.prog X.w H' h'):Inv X pins σ H' { s with heap:=h',toks:=t' }:=by
 obtain ⟨m,⟨o,es,ep,ho,r⟩,_⟩:=id I.loc
 obtain ⟨sl,hL⟩:=u.any ho I.free (by simp)
 exact I.step (g':=s.gens) (d':=s.drawn) (ch:=[]) (fun _ z=>nomatch z) (fun b o _ hb _ e n=>u.keep b o e n hb (by simp)) (fun b o _ hb _ e n=>u.slot b o e n hb (by simp)) (fun b o _ e n=>u.free b o e n (by simp)) (fun b o _ e=>u.there b o e (by simp)) u.tups u.frzs u.tbls (fun m' hm=>by
  obtain ⟨o',es',ep',ho',r'⟩:=hm
  rw [ho] at ho';cases ho'
  exact ⟨_,es',ep',hL,r'⟩) hok I.bare
theorem Inv.call {g':Array GenState} {t':Nat} {d':Drawn} {ch:List Addr} (I:Inv X pins σ H s) (u:Un (frs X.stack) ch H H' s.heap h') (hok:HOk X.prog X.w H' h') (hg:AllBare g')
  (hch:∀ b∈ch,(b∈X.ex∨X.s₀.heap.objs.size<=b)∧b≠X.env.locals∧(∀ x c,X.env.cells.lookup x=some c->c≠b) ∧ ∀ p∈X.pn++pins,p.1≠b) :
  Inv X pins σ H' { s with heap:=h',gens:=g',drawn:=d',toks:=t' }:=by
 obtain ⟨m,⟨o,es,ep,ho,r⟩,_⟩:=id I.loc
 obtain ⟨sl,hL⟩:=u.any ho I.free fun z=>(hch _ z).2.1 rfl
 exact I.step (ch:=ch) hch (fun b o hL hb hc e n=>u.keep b o e n (fun z=>(List.mem_cons.mp (I.stkSub b z)).elim hL hb) hc) (fun b o _ _ hc e n=>u.any e n hc) (fun b o hc e n=>u.free b o e n hc) (fun b o hc e=>u.there b o e hc) u.tups u.frzs u.tbls (fun m' hm=>by
  obtain ⟨o',es',ep',ho',r'⟩:=hm
  rw [ho] at ho';cases ho'
  exact ⟨_,es',ep',hL,r'⟩) hok hg
theorem Inv.turned {t':Nat} {it:Addr} (I:Inv X pins σ H s) (k:∀ b o,b≠it->s.heap.get? b=some o->h'.get? b=some o) (hn:H it=none) (hL:it≠X.env.locals)
  (h1:it∈X.ex∨X.s₀.heap.objs.size<=it) (h2:∀ x c,X.env.cells.lookup x=some c->c≠it) (h3:∀ p∈X.pn++pins,p.1≠it):Inv X pins σ H { s with heap:=h',toks:=t' }:=by
 have nit:∀ b u,H b=some u->b≠it:=fun b u e z=>by rw [z,hn] at e;cases e
 refine I.step (g':=s.gens) (d':=s.drawn) (ch:=[it]) (fun b hb=>?_) (fun b o _ _ hc e _=>k b o (fun z=>hc (by simp [z])) e) (fun b o _ _ hc e _=>⟨o.slots,k b o (fun z=>hc (by simp [z])) e⟩) (fun _ _ _ _ n=>n)
  (fun b o hc e=>⟨o,k b o (fun z=>hc (by simp [z])) e⟩) (fun _ _ e=>e) (fun _ _ _ e=>e) (fun b ps e=>⟨#[],by rw [e];simp⟩) (fun m hm=>?_) (fun b u e=>?_) I.bare
 ·have e:b=it:=by simpa using hb
  subst e
  exact ⟨h1,hL,h2,h3⟩
 ·obtain ⟨o,es,ep,ho,r⟩:=hm
  exact ⟨o,es,ep,k _ o (Ne.symm hL) ho,r⟩
 ·refine (I.hok b u e).stay (fun c v hc q=>k c v ?_ q) (fun _ q=>q) fun _ _ q=>q
  rcases hc with z | z
  ·rw [z];exact nit b u e
  ·exact nit c _ z
theorem Inv.tok (I:Inv X pins σ H s) (t:Nat):Inv X pins σ H { s with toks:=t }:=I.un (h':=s.heap) (t':=t) Un.refl I.hok
theorem Inv.kept {t':Nat} (I:Inv X pins σ H s) (k:∀ b u,s.heap.get? b=some u->h'.get? b=some u):Inv X pins σ H { s with heap:=h',toks:=t' }:=I.un (Un.kept k) (I.hok.kept k)
theorem Inv.laid {a:Addr} {o:HO} {t':Nat} (I:Inv X pins σ H s) (k:∀ b u,s.heap.get? b=some u->h'.get? b=some u) (hp:s.heap.objs.size<=a) (new:fP X.prog X.w (upd H a o) h' a o) :
  Inv X pins σ (upd H a o) { s with heap:=h',toks:=t' }:=I.un (Un.laid k hp (I.hok.fresh hp)) (I.hok.laid k hp new)
theorem Inv.write {x e:Addr} {o:HO} {t':Nat} (I:Inv X pins σ H s) (mu:Mut (H x)) (he:e=x∨H e=some (.own x)) (k:∀ b u,b≠e->s.heap.get? b=some u->h'.get? b=some u) (heo:∃ u,h'.get? e=some u)
  (new:fP X.prog X.w (upd H x o) h' x o):Inv X pins σ (upd H x o) { s with heap:=h',toks:=t' }:=I.un (Un.write mu he k heo) (I.hok.write mu he k heo new)
theorem Inv.pins_of {pins':List (Addr×Obj)} (I:Inv X pins σ H s) (h:∀ p∈pins',s.heap.get? p.1=some p.2∧H p.1=none∧p.1≠X.env.locals∧p.1 ∉ X.fs ∧ ∀ v,p.2.data ≠ .cell v):Inv X pins' σ H s:=
 ⟨I.ok,I.os,I.bare,I.base,I.loc,I.cell,I.free,I.freeC,fun p hp=>(List.mem_append.mp hp).elim (fun z=>I.pin p (List.mem_append_left _ z)) (h p),I.hok,I.len⟩
theorem zm {N:List Str} (hN:N.Nodup) {i j:Nat} {x:Str} (a:N[i]? = some x) (b:N[j]? = some x):i=j:=by
 obtain ⟨h1,e1⟩:=List.getElem?_eq_some_iff.mp a
 obtain ⟨h2,e2⟩:=List.getElem?_eq_some_iff.mp b
 exact (List.getElem_inj hN).mp (e1.trans e2.symm)
theorem qz {M:Model} {A:Around} {E:Value->Shared->Prop} {i:Nat} {x:Str} {v:V} {u:Value} {Q:Unit->Shared->Prop} (I:Inv X pins σ H s) (hN:X.N.Nodup) (hi:X.N[i]? = some x) (hx:Loc X.env.scope x) (r:RelV v u)
  (h:∀ s',Inv X pins (σ.set i (some v)) H s'->(∃ a,Heap.SameBut a s.heap s'.heap∧(a=X.env.locals∨X.env.cells.lookup x=some a))->Q () s') (hf:X.fn x=true∨X.env.scope.names.lookup x=some .local:=by first | exact .inl rfl | exact .inr rfl | assumption):wpAny M A (storeName X.env x u) Q E s:=by
 obtain ⟨m,hn,hl⟩:=id I.loc
 have hcls:(X.env.scope.kind == .class||(X.env.scope.kind == .module&&X.env.locals != X.env.globals))=false:=by rw [I.ok.kind];rfl
 have hiσ : i < σ.length:=by rw [I.len];exact (List.getElem?_eq_some_iff.mp hi).1
 have cne:=I.cne
 have tracked:∀ {a:Addr} {h':Heap},(∃ o,s.heap.get? a=some o∧H a=none)->Heap.SameBut a s.heap h'->HOk X.prog X.w H h':=fun {a h'} ha hs b ob e=>by
  obtain ⟨_,_,hfree⟩:=ha
  refine (I.hok b ob e).stay (fun c w' hc q=>(hs.2 c ?_).trans q) (fun _ q=>q) fun _ _ q=>q
  rintro rfl
  rcases hc with rfl | hc
  ·rw [hfree] at e;cases e
  ·rw [hfree] at hc;cases hc
 rcases hx with hk | hk
 ·refine wpAny_storeName_local hk hn (fun h' hn' hs=>?_) hcls
  obtain ⟨oL,_,_,hoL,_⟩:=id hn
  refine h _ ⟨I.ok,I.os,I.bare,⟨fun b o e n hb hx=>?_,fun b o e n hb hx=>?_,I.base.free,fun b o e hx=>?_,I.base.tups,I.base.frzs,I.base.tbls⟩,⟨_,hn',fun j y v' e1 e2 e3=>?_⟩,fun y c e=>?_,I.free,I.freeC,fun p hp=>?_,tracked ⟨oL,hoL,I.free⟩ hs,by simpa using I.len⟩ ⟨_,hs,.inl rfl⟩
  ·exact (hs.2 b (Nat.ne_of_lt (Nat.lt_of_lt_of_le (Heap.lt_size e) I.ok.above))).trans (I.base.keep b o e n hb hx)
  ·obtain ⟨sl,e1⟩:=I.base.slot b o e n hb hx
   exact ⟨sl,(hs.2 b (Nat.ne_of_lt (Nat.lt_of_lt_of_le (Heap.lt_size e) I.ok.above))).trans e1⟩
  ·obtain ⟨o',e1⟩:=I.base.there b o e hx
   exact ⟨o',(hs.2 b (Nat.ne_of_lt (Nat.lt_of_lt_of_le (Heap.lt_size e) I.ok.above))).trans e1⟩
  ·by_cases hj:j=i
   ·subst hj
    rw [hi] at e1;cases e1
    rw [List.getElem?_set_self hiσ] at e2
    cases e2
    exact ⟨u,r,.inl ⟨hk,by simp⟩⟩
   ·rw [List.getElem?_set_ne (Ne.symm hj)] at e2
    obtain ⟨u',r',q⟩:=hl j y v' e1 e2 e3
    refine ⟨u',r',?_⟩
    rcases q with ⟨k,e⟩ | ⟨k,c,e,z⟩
    ·refine .inl ⟨k,?_⟩
     have:y≠x:=fun e=>hj (zm hN e1 (e ▸ hi))
     simp [this,e]
    ·exact .inr ⟨k,c,e,z.sameBut hs (cne y c e)⟩
  ·obtain ⟨w',z⟩:=I.cell y c e
   exact ⟨w',z.sameBut hs (cne y c e)⟩
  ·obtain ⟨e,n,ne,nf,d⟩:=I.pin p hp
   exact ⟨(hs.2 p.1 ne).trans e,n,ne,nf,d⟩
 ·have hfn:X.fn x=true:=by
   rcases hf with z | z
   ·exact z
   ·rw [z] at hk;cases hk
  obtain ⟨c,hc⟩:=I.ok.has x (.inl hk)
  obtain ⟨w',z⟩:=I.cell x c hc
  refine wpAny_storeName_cell I.ok.kind hk hc z (fun h' hc' hs=>?_)
  obtain ⟨oc,hoc,hocd⟩:=id z
  refine h { s with heap:=h' } ⟨I.ok,I.os,I.bare,⟨fun b o e n hb hx=>?_,fun b o e n hb hx=>?_,I.base.free,fun b o e hx=>?_,I.base.tups,I.base.frzs,I.base.tbls⟩,⟨m,hn.sameBut hs (Ne.symm (cne x c hc)),fun j y v' e1 e2 e3=>?_⟩,fun y c' e=>?_,I.free,I.freeC,fun p hp=>?_,tracked ⟨oc,hoc,I.freeC x c hc⟩ hs,by simpa using I.len⟩ ⟨c,hs,.inr hc⟩
  ·exact (hs.2 b (Nat.ne_of_lt (Nat.lt_of_lt_of_le (Heap.lt_size e) (I.ok.cab x c hfn hc)))).trans (I.base.keep b o e n hb hx)
  ·obtain ⟨sl,e1⟩:=I.base.slot b o e n hb hx
   exact ⟨sl,(hs.2 b (Nat.ne_of_lt (Nat.lt_of_lt_of_le (Heap.lt_size e) (I.ok.cab x c hfn hc)))).trans e1⟩
  ·obtain ⟨o',e1⟩:=I.base.there b o e hx
   exact ⟨o',(hs.2 b (Nat.ne_of_lt (Nat.lt_of_lt_of_le (Heap.lt_size e) (I.ok.cab x c hfn hc)))).trans e1⟩
  ·by_cases hj:j=i
   ·subst hj
    rw [hi] at e1;cases e1
    rw [List.getElem?_set_self hiσ] at e2
    cases e2
    exact ⟨u,r,.inr ⟨.inl hk,c,hc,hc'⟩⟩
   ·rw [List.getElem?_set_ne (Ne.symm hj)] at e2
    obtain ⟨u',r',q⟩:=hl j y v' e1 e2 e3
    refine ⟨u',r',?_⟩
    rcases q with q | ⟨k,c',e,z'⟩
    ·exact .inl q
    ·refine .inr ⟨k,c',e,z'.sameBut hs ?_⟩
     rintro rfl
     exact hj (zm hN e1 (I.ok.inj _ _ _ e hc ▸ hi))
  ·by_cases hcc:c'=c
   ·subst hcc;exact ⟨_,hc'⟩
   ·obtain ⟨w2,z2⟩:=I.cell y c' e
    exact ⟨w2,z2.sameBut hs hcc⟩
  ·obtain ⟨e,n,ne,nf,d⟩:=I.pin p hp
   refine ⟨(hs.2 p.1 ?_).trans e,n,ne,nf,d⟩
   intro q
   rw [q,hoc] at e
   have q':oc=p.2:=Option.some.inj e
   exact d w' (by rw [← q'];exact hocd)
theorem Aa {M:Model} {A:Around} {E:Value->Shared->Prop} {i:Nat} {x:Str} {v:V} {u:Value} {Q:Unit->Shared->Prop} (I:Inv X pins σ H s) (hN:X.N.Nodup) (hi:X.N[i]? = some x) (hx:Loc X.env.scope x) (r:RelV v u)
  (h:∀ s',Inv X pins (σ.set i (some v)) H s'->Q () s') (hf:X.fn x=true∨X.env.scope.names.lookup x=some .local:=by first | exact .inl rfl | exact .inr rfl | assumption):wpAny M A (storeName X.env x u) Q E s:=
 qz I hN hi hx r (fun s' I' _=>h s' I') hf
theorem Inv.call' {s':Shared} {ch:List Addr} (I:Inv X pins σ H s) (ho:s'.os=s.os) (u:Un (frs X.stack) ch H H' s.heap s'.heap) (hok:HOk X.prog X.w H' s'.heap) (hg:AllBare s'.gens)
  (hch:∀ b∈ch,(b∈X.ex∨X.s₀.heap.objs.size<=b)∧b≠X.env.locals∧(∀ x c,X.env.cells.lookup x=some c->c≠b) ∧ ∀ p∈X.pn++pins,p.1≠b):Inv X pins σ H' s':=by
 obtain ⟨h',g',d',t',o'⟩:=s'
 have e:o'=s.os:=ho
 subst e
 exact I.call (g':=g') (t':=t') (d':=d') u hok hg hch
end
noncomputable abbrev XK:=Value->Option Addr->Hp->Prop
noncomputable abbrev St:=List (Option V)
noncomputable abbrev VK:=V->Hp->Prop
noncomputable abbrev TE:=St->Hp->VK->Prop
noncomputable abbrev TT:=St->Hp->(Bool->Hp->Prop)->Prop
noncomputable abbrev TA:=St->Hp->(List V->Hp->Prop)->Prop
structure Ends where
 nx:St->Hp->Prop
 rt:VK
 bk:St->Hp->Prop:=fun _ _=>False
 ct:St->Hp->Prop:=fun _ _=>False
noncomputable abbrev TS:=Ends->St->Hp->Prop
noncomputable def EP (X:Cx) (pins:List (Addr×Obj)) (σ : St) (Q:VK) (u:Value) (s':Shared):Prop:=∃ v H',Inv X pins σ H' s'∧RelV v u∧Q v H'
noncomputable def TP (X:Cx) (pins:List (Addr×Obj)) (σ : St) (Q:Bool->Hp->Prop) (b:Bool) (s':Shared):Prop:=∃ H',Inv X pins σ H' s'∧Q b H'
noncomputable def AP (X:Cx) (pins:List (Addr×Obj)) (σ : St) (Q:List V->Hp->Prop) (us:List Value) (s':Shared):Prop:=∃ vs H',Inv X pins σ H' s'∧Vals vs us∧Q vs H'
noncomputable def SP (X:Cx) (pins:List (Addr×Obj)) (D:Ends) (f:Flow) (s':Shared):Prop:=
 match f with
 | .next=>∃ σ' H',Inv X pins σ' H' s'∧D.nx σ' H'
 | .brk=>∃ σ' H',Inv X pins σ' H' s'∧D.bk σ' H'
 | .cont=>∃ σ' H',Inv X pins σ' H' s'∧D.ct σ' H'
 | .ret u=>∃ v σ' H',Inv X pins σ' H' s'∧RelV v u∧D.rt v H'
noncomputable def PE (X:Cx) (e:Expr) (t:TE):Prop:=
 ∀ (pins:List (Addr×Obj)) (s:Shared) (σ : St) (H:Hp) (Q:VK),Inv X pins σ H s->t σ H Q->wpAny (model X.prog X.w) X.A (eval e X.env) (EP X pins σ Q) X.xe s
noncomputable def PT (X:Cx) (e:Expr) (t:TT):Prop:=
 ∀ (pins:List (Addr×Obj)) (s:Shared) (σ : St) (H:Hp) (Q:Bool->Hp->Prop),Inv X pins σ H s->t σ H Q->wpAny (model X.prog X.w) X.A (isTrue e X.env (eval e X.env)) (TP X pins σ Q) X.xe s
noncomputable def PW (X:Cx) (e:Expr) (t:TT):Prop:=
 ∀ (whole:Sem Value) (pins:List (Addr×Obj)) (s:Shared) (σ : St) (H:Hp) (Q:Bool->Hp->Prop),Inv X pins σ H s->t σ H Q->wpAny (model X.prog X.w) X.A (isTrue e X.env whole) (TP X pins σ Q) X.xe s
theorem PW.pt {X:Cx} {e:Expr} {t:TT} (h:PW X e t):PT X e t:=h _
noncomputable def PA (X:Cx) (es:List Expr) (t:TA):Prop:=
 ∀ (pos:Pos) (pins:List (Addr×Obj)) (s:Shared) (σ : St) (H:Hp) (Q:List V->Hp->Prop),Inv X pins σ H s->t σ H Q->wpAny (model X.prog X.w) X.A (spliced (backTo pos (starEach es X.env))) (AP X pins σ Q) X.xe s
noncomputable def PS (X:Cx) (st:Stmt) (t:TS):Prop:=
 ∀ (pins:List (Addr×Obj)) (s:Shared) (σ : St) (H:Hp) (D:Ends),Inv X pins σ H s->t D σ H->wpAny (model X.prog X.w) X.A (exec st X.env) (SP X pins D) X.xe s
noncomputable def PSs (X:Cx) (st:List Stmt) (t:TS):Prop:=
 ∀ (pins:List (Addr×Obj)) (s:Shared) (σ : St) (H:Hp) (D:Ends),Inv X pins σ H s->t D σ H->wpAny (model X.prog X.w) X.A (execs st X.env) (SP X pins D) X.xe s
theorem thn {α : Type} {t:Sem α} {Q Q' : α -> Shared->Prop} {M:Model} {A:Around} {E:Value->Shared->Prop} {s:Shared} (h:wpAny M A t Q E s) (hQ:∀ a s,Q a s->Q' a s):wpAny M A t Q' E s:=wpAny_mono h hQ fun _ _ x=>x
section
variable {X:Cx}
noncomputable def JV (i:Nat):TE:=fun σ H Q=>∃ v,σ[i]? = some (some v)∧Q v H
noncomputable def tC (v:V):TE:=fun _ H Q=>Q v H
theorem nZ {i:Nat} {x:Str} {pos:Pos} (hN:X.N[i]? = some x) (hv:Vis X.env.scope x) (hd:(x==("__debug__" : Str))=false:=by decide) (hcd:(x==("__classdict__" : Str))=false:=by decide):PE X (.Name x pos) (JV i):=by
 intro pins s σ H Q I h
 obtain ⟨v,e,h⟩:=h
 obtain ⟨m,hn,hl⟩:=I.loc
 obtain ⟨u,r,l⟩:=hl i x v hN e hv
 have fin:EP X pins σ Q u s:=⟨v,H,I,r,h⟩
 rcases l with ⟨hk,hm⟩ | ⟨hk,c,hc,hcell⟩
 ·exact wpAny_Name (wpAny_loadName_local I.ok.kind hk hn hm fin) hd
 ·rcases hk with hk | hk
  ·exact wpAny_Name (wpAny_loadName_cell I.ok.kind hk hc hcell fin) hd
  ·exact wpAny_Name (wpAny_loadName_free I.ok.kind hk hc hcell fin hcd) hd
theorem RM {i j pos}:PE X (.Constant (.int i) j pos) (tC (.int i)):=fun _ _ _ H _ I h=>wpAny_Constant_int ⟨.int i,H,I.tok _,⟨_,rfl⟩,h⟩
theorem Uy {b j pos}:PE X (.Constant (.bool b) j pos) (tC (.bl b)):=fun _ _ _ H _ I h=>Constant_bool ⟨.bl b,H,I,rfl,h⟩
theorem RP {j pos}:PE X (.Constant .none j pos) (tC .non):=fun _ _ _ H _ I h=>Constant_none ⟨.non,H,I,rfl,h⟩
theorem Bu {x j pos}:PE X (.Constant (.str x) j pos) (tC (.str x)):=fun _ _ _ H _ I h=>Calls.Constant_str ⟨.str x,H,I.tok _,⟨_,rfl⟩,h⟩
noncomputable def Gl (X:Cx) (x:Str):Prop:=X.env.kindOf x=some .globalImplicit
theorem CQ {E:Value->Shared->Prop} {pins:List (Addr×Obj)} {s:Shared} {σ : St} {H:Hp} {x:Str} {u:Value} {pos:Pos} {Q:Value->Shared->Prop} (I:Inv X pins σ H s) (hg:Gl X x) (hm:X.mg x=some u) (h:Q u s)
  (hd:(x==("__debug__" : Str))=false:=by decide):wpAny (model X.prog X.w) X.A (eval (.Name x pos) X.env) Q E s:=
 Calls.Name_function_global I.ok.kind hg (Calls.loadGlobal_global (by rw [I.ok.glob];exact I.mod.glob.keeps I.bk) hm h) hd
theorem lN {E:Value->Shared->Prop} {pins:List (Addr×Obj)} {s:Shared} {σ : St} {H:Hp} {x:Str} {u:Value} {pos:Pos} {Q:Value->Shared->Prop} (I:Inv X pins σ H s) (hg:Gl X x) (hm:X.mg x=none) (hv:bootBuiltins x=some u) (h:Q u s)
  (hn:x ≠ "__name__":=by decide) (hd:(x==("__debug__" : Str))=false:=by decide):wpAny (model X.prog X.w) X.A (eval (.Name x pos) X.env) Q E s:=by
 obtain ⟨mb,h1,h2⟩:=I.mod.blt
 exact Calls.Name_function_global I.ok.kind hg (Calls.loadGlobal_builtin (by rw [I.ok.glob];exact I.mod.glob.keeps I.bk) hm (by rw [I.ok.blt];exact h1.keeps I.bk) ((h2 x hn).trans hv) h) hd
theorem pB {x:Str} {v:V} {u:Value} {pos:Pos} (hg:Gl X x) (hm:X.mg x=some u) (r:RelV v u) (hd:(x==("__debug__" : Str))=false:=by decide):PE X (.Name x pos) (tC v):=
 fun _ _ _ H _ I h=>CQ I hg hm ⟨v,H,I,r,h⟩ hd
theorem Nb {x:Str} {v:V} {u:Value} {pos:Pos} (hg:Gl X x) (hm:X.mg x=none) (hv:bootBuiltins x=some u) (r:RelV v u) (hn:x ≠ "__name__":=by decide) (hd:(x==("__debug__" : Str))=false:=by decide):PE X (.Name x pos) (tC v):=
 fun _ _ _ H _ I h=>lN I hg hm hv ⟨v,H,I,r,h⟩ hn hd
variable {a b:Expr} {ta tb:TE} {pos:Pos}
variable {tA tB':TT} {rest:List Expr}
noncomputable def tOr (t u:TT):TT:=fun σ H Q=>t σ H fun c H1=>if c=true then Q true H1 else u σ H1 Q
noncomputable def WN (t:TT):TT:=fun σ H Q=>t σ H fun c H1=>Q (!c) H1
theorem Su (ha:PT X a tA):PW X (.BoolOp .Or [a] pos) tA:=by
 intro wh pins s σ H Q I h
 refine isTrue_or (thn (ha pins s σ H Q I h) fun c s1 e=>?_)
 cases c with
 | false=>exact isTrue_or_nil e
 | true=>exact e
theorem UV (ha:PT X a tA) (hb:PW X (.BoolOp .Or (b :: rest) pos) tB'):PW X (.BoolOp .Or (a :: b :: rest) pos) (tOr tA tB'):=by
 intro wh pins s σ H Q I h
 refine isTrue_or (thn (ha pins s σ H _ I h) fun c s1 ⟨H1,I1,q1⟩=>?_)
 cases c with
 | true=>exact ⟨H1,I1,q1⟩
 | false=>exact hb wh pins s1 σ H1 Q I1 q1
theorem Ss (ha:PT X a tA):PT X (.UnaryOp .Not a pos) (WN tA):=by
 intro pins s σ H Q I h
 exact isTrue_not (ha pins s σ H (fun c H1=>Q (!c) H1) I h)
noncomputable def VB (ta tb:TE):TE:=fun σ H Q=>ta σ H fun x H1=>∃ c,x = .bl c∧if c=true then tb σ H1 Q else Q (.bl false) H1
noncomputable def WP (ta tb:TE):TE:=fun σ H Q=>ta σ H fun x H1=>∃ c,x = .bl c∧if c=true then Q (.bl true) H1 else tb σ H1 Q
noncomputable def VJ (ta:TE):TE:=fun σ H Q=>ta σ H fun x H1=>∃ c,x = .bl c∧Q (.bl (!c)) H1
theorem RT {op} {t:TE} (h:PE X a t):PE X (.BoolOp op [a] pos) t:=fun pins s σ H Q I hw=>BoolOp_one (h pins s σ H Q I hw)
theorem RL (ha:PE X a ta) (hb:PE X (.BoolOp .And (b :: rest) pos) tb):PE X (.BoolOp .And (a :: b :: rest) pos) (VB ta tb):=by
 intro pins s σ H Q I h
 refine BoolOp_and (thn (ha pins s σ H _ I h) fun v s1 ⟨x,H1,I1,r1,q1⟩=>?_)
 obtain ⟨c,rfl,q1⟩:=q1
 cases r1
 refine wpAny_truthy_bool ?_
 cases c with
 | true=>exact hb pins s1 σ H1 Q I1 q1
 | false=>exact ⟨.bl false,H1,I1,rfl,q1⟩
theorem UG (ha:PE X a ta) (hb:PE X (.BoolOp .Or (b :: rest) pos) tb):PE X (.BoolOp .Or (a :: b :: rest) pos) (WP ta tb):=by
 intro pins s σ H Q I h
 refine BoolOp_or (thn (ha pins s σ H _ I h) fun v s1 ⟨x,H1,I1,r1,q1⟩=>?_)
 obtain ⟨c,rfl,q1⟩:=q1
 cases r1
 refine wpAny_truthy_bool ?_
 cases c with
 | false=>exact hb pins s1 σ H1 Q I1 q1
 | true=>exact ⟨.bl true,H1,I1,rfl,q1⟩
theorem RQ (ha:PE X a ta):PE X (.UnaryOp .Not a pos) (VJ ta):=by
 intro pins s σ H Q I h
 refine UnaryOp_ (thn (ha pins s σ H _ I h) fun v s1 ⟨x,H1,I1,r1,q1⟩=>?_)
 obtain ⟨c,rfl,q1⟩:=q1
 cases r1
 exact not_of (wpAny_truthy_bool ⟨.bl (!c),H1,I1,rfl,q1⟩)
noncomputable def tIf (t:TT) (ta tb:TE):TE:=fun σ H Q=>t σ H fun c H1=>if c=true then ta σ H1 Q else tb σ H1 Q
theorem IV {c:Expr} (hc:PT X c tA) (ha:PE X a ta) (hb:PE X b tb):PE X (.IfExp c a b pos) (tIf tA ta tb):=by
 intro pins s σ H Q I h
 refine wpAny_IfExp (thn (hc pins s σ H _ I h) fun d s1 ⟨H1,I1,q1⟩=>?_)
 cases d with
 | true=>exact ha pins s1 σ H1 Q I1 q1
 | false=>exact hb pins s1 σ H1 Q I1 q1
end
noncomputable def SqL (K:PySem.W.Frag) (H:Hp) (a:Addr) (xs:List V):Prop:=
 Rd H a (.lst xs) ∨
  ∃ (o:Obj) (its:Array Value) (n:Nat),K.lookup a=some o∧o.cls = .type "list" ∧ o.dict=none∧o.data = .seq its n∧its.size<=sizeLine∧Vals xs its.toList
noncomputable def SqT (K:PySem.W.Frag) (H:Hp) (a:Addr) (xs:List V):Prop:=
 Rd H a (.tup xs) ∨
  ∃ (o:Obj) (its:Array Value) (n:Nat),K.lookup a=some o∧o.cls = .type "tuple" ∧ o.data = .seq its n∧its.size<=sizeLine∧Vals xs its.toList
noncomputable def Wj:Value->Option V
 | .none=>some .non
 | .bool b=>some (.bl b)
 | .int i _=>some (.int i)
 | .str x _=>some (.str x)
 | .bytes b _=>some (.byt b)
 | .float b _=>some (.flt b)
 | .ref a=>some (.ref a)
 | .type n=>some (.ty n)
 | _=>none
theorem RelV.abs {x:V} {u:Value} (r:RelV x u):Wj u=some x:=by
 cases x with
 | non=>cases r;rfl
 | bl _=>cases r;rfl
 | int _=>obtain ⟨t,rfl⟩:=r;rfl
 | str _=>obtain ⟨t,rfl⟩:=r;rfl
 | byt _=>obtain ⟨t,rfl⟩:=r;rfl
 | flt _=>obtain ⟨t,rfl⟩:=r;rfl
 | ref _=>cases r;rfl
 | ty _=>cases r;rfl
theorem RelV.inj {x y:V} {u:Value} (r:RelV x u) (q:RelV y u):x=y:=Option.some.inj (r.abs.symm.trans q.abs)
theorem Vals.inj:∀ {xs ys:List V} {us:List Value},Vals xs us->Vals ys us->xs=ys
 | _,_,_,.nil,.nil=>rfl
 | _,_,_,.cons r t,.cons r' t'=>by rw [r.inj r',Vals.inj t t']
section
variable {X:Cx} {pins:List (Addr×Obj)} {σ : St} {H:Hp} {s:Shared} {a:Addr} {xs ys:List V}
theorem SqL.of {K:PySem.W.Frag} (h:H a=some (.lst xs)):SqL K H a xs:=.inl (.inl h)
theorem SqT.of {K:PySem.W.Frag} (h:H a=some (.tup xs)):SqT K H a xs:=.inl (.inl h)
theorem Inv.list (I:Inv X pins σ H s) (h:SqL X.K H a xs):∃ its:List Value,Vals xs its∧PlainL s.heap a its.toArray∧xs.length<=sizeLine:=by
 rcases h with h | ⟨o,its,n,hk,hc,hd,hs,hz,r⟩
 ·obtain ⟨z,its,n,r,e⟩:=h.ok I.hok
  exact ⟨its,r,⟨_,n,e,rfl,rfl,rfl⟩,z⟩
 ·refine ⟨its.toList,r,⟨o,n,I.kIn a o hk,hc,hd,by simpa using hs⟩,?_⟩
  have e:=r.length
  simp only [Array.length_toList] at e
  omega
theorem Inv.tuple (I:Inv X pins σ H s) (h:SqT X.K H a xs):∃ its:List Value,Vals xs its∧IsTup s.heap a its.toArray∧xs.length<=sizeLine:=by
 rcases h with h | ⟨o,its,n,hk,hc,hs,hz,r⟩
 ·obtain ⟨z,its,r,p⟩:=h.ok I.hok
  exact ⟨its,r,p,z⟩
 ·refine ⟨its.toList,r,⟨o,I.kIn a o hk,hc,n,by simpa using hs⟩,?_⟩
  have e:=r.length
  simp only [Array.length_toList] at e
  omega
theorem Inv.list_inj (I:Inv X pins σ H s) (h:SqL X.K H a xs) (h':SqL X.K H a ys):xs=ys:=by
 obtain ⟨its,r,⟨o,n,e,_,_,d⟩,_⟩:=I.list h
 obtain ⟨its',r',⟨o',n',e',_,_,d'⟩,_⟩:=I.list h'
 rw [e] at e';cases e'
 rw [d] at d'
 injection d' with d1 _
 have:its=its':=by simpa using congrArg Array.toList d1
 subst this
 exact r.inj r'
theorem Inv.tuple_inj (I:Inv X pins σ H s) (h:SqT X.K H a xs) (h':SqT X.K H a ys):xs=ys:=by
 obtain ⟨its,r,⟨o,e,_,n,d⟩,_⟩:=I.tuple h
 obtain ⟨its',r',⟨o',e',_,n',d'⟩,_⟩:=I.tuple h'
 rw [e] at e';cases e'
 rw [d] at d'
 injection d' with d1 _
 have:its=its':=by simpa using congrArg Array.toList d1
 subst this
 exact r.inj r'
end
noncomputable abbrev Cx.wish (X:Cx) (E:Value->Shared->Prop):Cx:={ X with xe:=E }
noncomputable abbrev Cx.nox (X:Cx):Cx:=X.wish fun _ _=>False
theorem Cx.Ok.wish {X:Cx} (ok:X.Ok) (E:Value->Shared->Prop):(X.wish E).Ok:=
 ⟨ok.mod,ok.kind,ok.glob,ok.blt,ok.above,ok.inj,ok.has,ok.cab,ok.hd,ok.frames,ok.stk,ok.exf,ok.bs,ok.bsz,ok.noex,ok.exfs,ok.funs,ok.frf⟩
theorem Cx.Ok.unwish {X:Cx} {E:Value->Shared->Prop} (ok:(X.wish E).Ok):X.Ok:=
 ⟨ok.mod,ok.kind,ok.glob,ok.blt,ok.above,ok.inj,ok.has,ok.cab,ok.hd,ok.frames,ok.stk,ok.exf,ok.bs,ok.bsz,ok.noex,ok.exfs,ok.funs,ok.frf⟩
section
variable {X:Cx} {pins:List (Addr×Obj)} {σ : St} {H:Hp} {s:Shared} {E:Value->Shared->Prop}
theorem Inv.wish (I:Inv X pins σ H s) (E:Value->Shared->Prop):Inv (X.wish E) pins σ H s:=⟨I.ok.wish E,I.os,I.bare,I.base,I.loc,I.cell,I.free,I.freeC,I.pin,I.hok,I.len⟩
theorem Inv.unwish (I:Inv (X.wish E) pins σ H s):Inv X pins σ H s:=⟨I.ok.unwish,I.os,I.bare,I.base,I.loc,I.cell,I.free,I.freeC,I.pin,I.hok,I.len⟩
theorem SP.unwish {D:Ends} {f:Flow} {s':Shared} (h:SP (X.wish E) pins D f s'):SP X pins D f s':=by
 cases f with
 | next=>obtain ⟨σ',H',I,q⟩:=h;exact ⟨σ',H',I.unwish,q⟩
 | brk=>obtain ⟨σ',H',I,q⟩:=h;exact ⟨σ',H',I.unwish,q⟩
 | cont=>obtain ⟨σ',H',I,q⟩:=h;exact ⟨σ',H',I.unwish,q⟩
 | ret u=>obtain ⟨v,σ',H',I,r,q⟩:=h;exact ⟨v,σ',H',I.unwish,r,q⟩
theorem PSs.nox {st:List Stmt} {t:TS} (h:PSs X.nox st t):PSs X st t:=fun pins s σ H D I hw=>
 wpAny_mono (h pins s σ H D (I.wish _) hw) (fun _ _ q=>q.unwish) fun _ _ z=>False.elim z
end
section
variable {X:Cx} {st:Stmt} {rest:List Stmt} {t u:TS} {e:Expr} {te:TE} {pos:Pos}
noncomputable def VH:TS:=fun D σ H=>D.nx σ H
noncomputable def WR (t u:TS):TS:=fun D σ H=>t { D with nx:=u D } σ H
theorem Nq:PSs X [] VH:=fun _ _ σ H _ I h=>wpAny_execs_nil ⟨σ,H,I,h⟩
theorem Jj (h1:PS X st t) (h2:PSs X rest u):PSs X (st :: rest) (WR t u):=by
 intro pins s σ H D I h
 refine wpAny_execs_cons (thn (h1 pins s σ H { D with nx:=u D } I h) fun f s1 q=>?_)
 cases f with
 | next=>
  obtain ⟨σ',H',I',q⟩:=q
  exact h2 pins s1 σ' H' D I' q
 | ret v=>exact q
 | brk=>exact q
 | cont=>exact q
theorem Nr (h1:PS X st t):PSs X [st] t:=by
 intro pins s σ H D I h
 refine wpAny_execs_cons (thn (h1 pins s σ H D I h) fun f s1 q=>?_)
 cases f with
 | next=>exact wpAny_execs_nil q
 | ret v=>exact q
 | brk=>exact q
 | cont=>exact q
theorem Inv.quiet {pins:List (Addr×Obj)} {σ : St} {H:Hp} {s:Shared} (I:Inv X pins σ H s):interactive X.env=false:=by simp [interactive,I.ok.kind]
noncomputable def VG (te:TE):TS:=fun D σ H=>te σ H fun _ H1=>D.nx σ H1
theorem Np (he:PE X e te) (hs:swapsWith e none pos.line X.env=pure false:=by rfl):PS X (.Expr e pos) (VG te):=by
 intro pins s σ H D I h
 exact wpAny_Expr_any (thn (he pins s σ H _ I h) fun v s1 ⟨x,H1,I1,r1,q1⟩=>⟨σ,H1,I1,q1⟩) I.quiet hs
noncomputable def WQ (te:TE):TS:=fun D σ H=>te σ H D.rt
theorem Ji (he:PE X e te):PS X (.Return (some e) pos) (WQ te):=by
 intro pins s σ H D I h
 exact wpAny_Return_some (thn (he pins s σ H _ I h) fun v s1 ⟨x,H1,I1,r1,q1⟩=>⟨x,σ,H1,I1,r1,q1⟩)
noncomputable def WK (c:TT) (t u:TS):TS:=fun D σ H=>c σ H fun b H1=>if b=true then t D σ H1 else u D σ H1
theorem UT {c:Expr} {a b:List Stmt} {tc:TT} (hc:PT X c tc) (ha:PSs X a t) (hb:PSs X b u):PS X (.If c a b pos) (WK tc t u):=by
 intro pins s σ H D I h
 refine wpAny_If (thn (hc pins s σ H _ I h) fun d s1 ⟨H1,I1,q1⟩=>?_)
 cases d with
 | true=>exact ha pins s1 σ H1 D I1 q1
 | false=>exact hb pins s1 σ H1 D I1 q1
noncomputable def Ti:TS:=fun _ _ _=>False
theorem Jh:PS X st Ti:=fun _ _ _ _ _ _ h=>h.elim
end
noncomputable abbrev TG:=V->St->Hp->(St->Hp->Prop)->Prop
noncomputable abbrev TGs:=List V->St->Hp->(St->Hp->Prop)->Prop
noncomputable def PG (X:Cx) (target:Expr) (t:TG):Prop:=
 ∀ (pins:List (Addr×Obj)) (s:Shared) (σ : St) (H:Hp) (v:V) (u:Value) (Q:St->Hp->Prop),Inv X pins σ H s->RelV v u->t v σ H Q ->
  wpAny (model X.prog X.w) X.A (assign target X.env u) (fun _ s'=>∃ σ' H',Inv X pins σ' H' s'∧Q σ' H') X.xe s
noncomputable def PGs (X:Cx) (ts:List Expr) (t:TGs):Prop:=
 ∀ (pins:List (Addr×Obj)) (s:Shared) (σ : St) (H:Hp) (vs:List V) (us:List Value) (Q:St->Hp->Prop),Inv X pins σ H s->Vals vs us->t vs σ H Q ->
  wpAny (model X.prog X.w) X.A (assignInOrder ((assignEach ts X.env).map (·.2)) us) (fun _ s'=>∃ σ' H',Inv X pins σ' H' s'∧Q σ' H') X.xe s
noncomputable abbrev Qf:=V->V->V->Hp->(Hp->Prop)->Prop
noncomputable def Ub (X:Cx) (t:Qf):Prop:=
 ∀ (pins:List (Addr×Obj)) (s:Shared) (σ : St) (H:Hp) (o i v:V) (ov iv u:Value) (Q:Hp->Prop),Inv X pins σ H s->RelV o ov->RelV i iv->RelV v u->t o i v H Q ->
  wpAny (model X.prog X.w) X.A (setItem ov iv u) (fun _ s'=>∃ H',Inv X pins σ H' s'∧Q H') X.xe s
section
variable {X:Cx} {pos:Pos}
noncomputable def Cw (i:Nat):TG:=fun v σ H Q=>Q (σ.set i (some v)) H
theorem Ni {i:Nat} {x:Str} (hN:X.N.Nodup) (hi:X.N[i]? = some x) (hx:Loc X.env.scope x) (hf:X.fn x=true∨X.env.scope.names.lookup x=some .local:=by first | exact .inl rfl | exact .inr rfl | assumption):PG X (.Name x pos) (Cw i):=by
 intro pins s σ H v u Q I r h
 exact wpAny_assign_Name (Aa I hN hi hx r (fun s' I'=>⟨_,H,I',h⟩) hf)
noncomputable def Wn:TGs:=fun vs σ H Q=>vs=[]∧Q σ H
noncomputable def Up (t:TG) (u:TGs):TGs:=fun vs σ H Q=>∃ v r,vs=v :: r∧t v σ H fun σ' H'=>u r σ' H' Q
theorem Nj:PGs X [] Wn:=by
 intro pins s σ H vs us Q I r h
 obtain ⟨e,h⟩:=h
 subst e
 cases r
 exact assignInOrder_nil ⟨σ,H,I,h⟩
theorem Jb {e:Expr} {es:List Expr} {t:TG} {u:TGs} (h1:PG X e t) (h2:PGs X es u)
  (hs:(assignEach (e :: es) X.env).map (·.2)=assign e X.env :: (assignEach es X.env).map (·.2):=by rfl):PGs X (e :: es) (Up t u):=by
 intro pins s σ H vs us Q I r h
 obtain ⟨v,vr,e1,h⟩:=h
 subst e1
 cases r with
 | cons r rr=>
  rw [hs]
  refine assignInOrder_cons (thn (h1 pins s σ H _ _ _ I r h) fun _ s1 ⟨σ1,H1,I1,q1⟩=>?_)
  exact h2 pins s1 σ1 H1 _ _ Q I1 rr q1
noncomputable def Wr (K:PySem.W.Frag) (n:Nat) (t:TGs):TG:=fun v σ H Q=>∃ a xs,v = .ref a∧SqT K H a xs∧xs.length=n∧t xs σ H Q
theorem RX {es:List Expr} {k:Nat} {t:TGs} {n:Nat} (hc:X.calm=true) (h:PGs X es t)
  (hn:(assignEach es X.env).length=n:=by rfl) (hst:(assignEach es X.env).findIdx? (·.1)=none:=by rfl):PG X (.Tuple es k pos) (Wr X.K n t):=by
 intro pins s σ H v u Q I r hw
 obtain ⟨a,xs,e1,hq,hl,hw⟩:=hw
 subst e1
 cases r
 obtain ⟨its,rv,ht,hz⟩:=I.tuple hq
 refine assign_Tuple_tuple (I.ok.hd hc) ht (by simp [hn,← hl,rv.length]) hst fun h' hx=>?_
 have I1:Inv X pins σ H { s with heap:=h' }:=I.kept (t':=s.toks) fun b o e=>hx b o (Nat.ne_of_lt (Heap.lt_size e)) e
 exact h pins _ σ H xs _ Q I1 (by simpa using rv) hw
noncomputable def Wo (to ti:TE) (t:Qf):TG:=fun v σ H Q=>to σ H fun o H1=>ti σ H1 fun i H2=>t o i v H2 fun H3=>Q σ H3
theorem RW {o i:Expr} {to ti:TE} {t:Qf} (ho:PE X o to) (hi:PE X i ti) (hs:Ub X t)
  (ha:∀ v,assign (.Subscript o i pos) X.env v=(do
   let ov ← holding [v] (eval o X.env)
   let iv ← holding [v,ov] (eval i X.env)
   standAt pos
   holding [v,ov,iv] (setItem ov iv v)
   release [v,ov,iv] []):=by intro _;rfl):PG X (.Subscript o i pos) (Wo to ti t):=by
 intro pins s σ H v u Q I r h
 rw [ha]
 refine wpAny_bind (wpAny_holding (thn (ho pins s σ H _ I h) fun ov s1 ⟨x,H1,I1,r1,q1⟩=>?_))
 refine wpAny_bind (wpAny_holding (thn (hi pins s1 σ H1 _ I1 q1) fun iv s2 ⟨y,H2,I2,r2,q2⟩=>?_))
 refine wpAny_bind (wpAny_standAt (wpAny_bind (wpAny_holding (thn (hs pins s2 σ H2 x y v ov iv u _ I2 r1 r2 r q2) fun _ s3 ⟨H3,I3,q3⟩=>?_))))
 exact wpAny_release ⟨σ,H3,I3,q3⟩
noncomputable def Ol (te:TE) (g:TG):TS:=fun D σ H=>te σ H fun x H1=>g x σ H1 D.nx
theorem Jf {tg e:Expr} {te:TE} {g:TG} (he:PE X e te) (hg:PG X tg g) (hs:swapsWithSole [tg] e pos.line X.env=pure false:=by rfl) (hw:swappedStores [tg] e X.env=pure none:=by rfl)
  (h1:(assignEach [tg] X.env).map (·.2)=[assign tg X.env]:=by rfl):PS X (.Assign [tg] e pos) (Ol te g):=by
 intro pins s σ H D I h
 refine wpAny_Assign_stores (thn (he pins s σ H _ I h) fun v s1 ⟨x,H1,I1,r1,q1⟩=>?_) hs hw
 rw [h1]
 exact thn (hg pins s1 σ H1 x v _ I1 r1 q1) fun _ s2 q=>q
theorem Sh {i:Nat} {x:Str} {e:Expr} {te:TE} {pos':Pos} (hN:X.N.Nodup) (hi:X.N[i]? = some x) (hx:Loc X.env.scope x) (he:PE X e te) (hs:swapsWith e (some (.Name x pos')) pos.line X.env=pure false:=by rfl) (hf:X.fn x=true∨X.env.scope.names.lookup x=some .local:=by first | exact .inl rfl | exact .inr rfl | assumption) :
  PS X (.Assign [.Name x pos'] e pos) (Ol te (Cw i)):=by
 intro pins s σ H D I h
 refine wpAny_Assign_Name (thn (he pins s σ H _ I h) fun v s1 ⟨y,H1,I1,r1,q1⟩=>?_) hs
 exact Aa I1 hN hi hx r1 (fun s2 I2=>⟨_,H1,I2,q1⟩) hf
end
section
variable {X:Cx} {pos:Pos}
end
structure It where
 go:Nat->Hp->Prop
 yld:Nat->Hp->V->Hp->Prop
 stop:Nat->Hp->Prop
noncomputable def oG (X:Cx) (pins:List (Addr×Obj)) (H:Hp) (b:Addr):Prop:=
 H b=none∧b≠X.env.locals∧b ∉ X.fs∧(b∈X.ex∨X.s₀.heap.objs.size<=b)∧(∀ x c,X.env.cells.lookup x=some c->c≠b) ∧ ∀ p∈X.pn++pins,p.1≠b
theorem Inv.fpOk {X:Cx} {pins:List (Addr×Obj)} {σ : St} {H H':Hp} {s:Shared} {b:Addr} (I:Inv X pins σ H s) (hb:s.heap.objs.size<=b) (hn:H' b=none):oG X pins H' b:=by
 refine ⟨hn,Nat.ne_of_gt (Nat.lt_of_lt_of_le I.lt hb),I.nofs hb,.inr (Nat.le_trans I.sz hb),fun x c e z=>?_,fun p hp z=>?_⟩
 ·obtain ⟨v,q⟩:=I.cell x c e
  exact absurd (Nat.lt_of_lt_of_le q.lt (by rw [z];exact hb)) (Nat.lt_irrefl _)
 ·exact absurd (Nat.lt_of_lt_of_le (Heap.lt_size (I.pin p hp).1) (by rw [z];exact hb)) (Nat.lt_irrefl _)
structure Turn (P:Program) (w:World) (K:PySem.W.Frag) (tg:Expr) (J:It) (fp:List Addr) (it:Addr) (tn:Nat->Heap->Prop):Prop where
 mem:it∈fp
 obj:∀ i h,tn i h -> ∀ b∈fp,∃ o,h.get? b=some o ∧ ∀ v,o.data ≠ .cell v
 keep:∀ i h h',tn i h->(∀ b∈fp,∀ o,h.get? b=some o->h'.get? b=some o)->tn i h'
 item:∀ (X:Cx),X.prog=P->X.w=w->X.K=K->X.calm=true -> ∀ (i:Nat) (pins:List (Addr×Obj)) (s:Shared) (σ : St) (H:Hp) (E:Value->Shared->Prop),Inv X pins σ H s->(∀ b∈fp,oG X pins H b)->tn i s.heap->J.go i H ->
  wpAny (model P w) X.A (pyNext (.ref it)) (fun r s1=>∃ u,r=some u ∧
   wpAny (model P w) X.A (letOwnedTupleGo tg (.ref it) u) (fun _ s2=>∃ x H',Inv X pins σ H' s2∧RelV x u∧J.yld i H x H'∧tn (i+1) s2.heap ∧ ∀ b∈fp,H' b=none) E s1) E s
 done:∀ (X:Cx),X.prog=P->X.w=w->X.K=K->X.calm=true -> ∀ (i:Nat) (pins:List (Addr×Obj)) (s:Shared) (σ : St) (H:Hp) (E:Value->Shared->Prop),Inv X pins σ H s->(∀ b∈fp,oG X pins H b)->tn i s.heap->J.stop i H ->
  wpAny (model P w) X.A (pyNext (.ref it)) (fun r s1=>r=none∧Inv X pins σ H s1) E s
 self:∀ (A:Around) (i:Nat) (s:Shared) (Q:Value->Shared->Prop) (E:Value->Shared->Prop),tn i s.heap->Q (.ref it) s->wpAny (model P w) A (pyIter (.ref it)) Q E s
noncomputable abbrev TI:=St->Hp->(It->Hp->Prop)->Prop
noncomputable def PIE (X:Cx) (pins:List (Addr×Obj)) (σ : St) (tg:Expr) (R:It->Hp->Prop) (itv:Value) (s2:Shared):Prop:=
 ∃ (it:Addr) (fp:List Addr) (tn:Nat->Heap->Prop) (J:It) (H':Hp),itv = .ref it∧Inv X pins σ H' s2∧Turn X.prog X.w X.K tg J fp it tn∧tn 0 s2.heap∧(∀ b∈fp,oG X pins H' b)∧R J H'
noncomputable def PI (X:Cx) (tg iter:Expr) (wi:TI):Prop:=
 ∀ (pins:List (Addr×Obj)) (s:Shared) (σ : St) (H:Hp) (R:It->Hp->Prop),Inv X pins σ H s->wi σ H R ->
  wpAny (model X.prog X.w) X.A (eval iter X.env) (fun v s1=>wpAny (model X.prog X.w) X.A (pyIter v) (PIE X pins σ tg R) X.xe s1) X.xe s
theorem CK {M:Model} {A:Around} {E:Value->Shared->Prop} {s:Shared} {tg:Expr} {it:Addr} {u:Value} {o:Obj} {n:String} {vs:Array Value} {Q:Unit->Shared->Prop} (ho:s.heap.get? it=some o) (hc:o.cls = .type n) (hd:o.data = .fields vs)
  (hn:["enumerate", "zip", "dict_itemiterator", "dict_reverseitemiterator", "odict_iterator", "itertools.zip_longest", "itertools.pairwise"].contains n=false) (hQ:Q () s):wpAny M A (letOwnedTupleGo tg (.ref it) u) Q E s:=by
 unfold letOwnedTupleGo
 cases tg <;> first
  | exact wpAny_pure hQ
  | (cases u <;> first
    | exact wpAny_pure hQ
    | (refine wpAny_bind (wpAny_load ho ?_)
       rw [hc,hd]
       show wpAny M A (if (["enumerate", "zip", "dict_itemiterator", "dict_reverseitemiterator", "odict_iterator", "itertools.zip_longest", "itertools.pairwise"].contains n&&vs[0]? == some (rawInt _))=true then _ else _) Q E s
       rw [if_neg (by intro h;rw [hn,Bool.false_and] at h;cases h)]
       exact wpAny_pure hQ))
noncomputable def Itl (K:PySem.W.Frag) (a:Addr):It:=
 ⟨fun i H=>∃ xs x,SqL K H a xs∧xs[i]? = some x,fun i H x H'=>H'=H ∧ ∀ xs,SqL K H a xs->xs[i]? = some x,fun i H=>∃ xs,SqL K H a xs∧xs.length<=i⟩
noncomputable def Itt (K:PySem.W.Frag) (a:Addr):It:=
 ⟨fun i H=>∃ xs x,SqT K H a xs∧xs[i]? = some x,fun i H x H'=>H'=H ∧ ∀ xs,SqT K H a xs->xs[i]? = some x,fun i H=>∃ xs,SqT K H a xs∧xs.length<=i⟩
noncomputable def Itr (lo:Int) (n:Nat):It:=⟨fun i _=>i<n,fun i H x H'=>H'=H∧x = .int (lo+i),fun i _=>n<=i⟩
theorem Gn {P:Program} {w:World} {K:PySem.W.Frag} {tg:Expr} (a it:Addr):Turn P w K tg (Itl K a) [it] it (fun i h=>h.IsListIter it a i) where
 mem:=by simp
 obj:=fun i h st b hb=>by
  have e:b=it:=by simpa using hb
  subst e
  obtain ⟨o,e,c,d⟩:=st
  exact ⟨o,e,fun v z=>by rw [d] at z;cases z⟩
 keep:=fun i h h' st k=>st.at fun o e=>k it (by simp) o e
 item:=by
  intro X hP hw hK hc i pins s σ H E I hf st hg
  subst hP hw hK
  obtain ⟨xs,x,hq,hx⟩:=hg
  obtain ⟨its,rv,p,hz⟩:=I.list hq
  obtain ⟨u,hu,ru⟩:=rv.get hx
  obtain ⟨f0,f1,f2,f3,f4,f5⟩:=hf it (by simp)
  refine wpAny_pyNext_list_item st p.isList (x:=u) (by simpa using hu) fun h' st' sb=>?_
  have I1:Inv X pins σ H { s with heap:=h' }:=I.turned (t':=s.toks) (fun b o hb e=>(sb.2 b hb).trans e) f0 f1 f3 f4 f5
  obtain ⟨o,e,c,d⟩:=id st'
  exact ⟨u,rfl,CK (s:={ s with heap:=h' }) e c d (by decide) ⟨x,H,I1,ru,⟨rfl,fun ys hy=>by rw [I.list_inj hy hq];exact hx⟩,st',fun b hb=>(hf b hb).1⟩⟩
 done:=by
  intro X hP hw hK hc i pins s σ H E I hf st hg
  subst hP hw hK
  obtain ⟨xs,hq,hx⟩:=hg
  obtain ⟨its,rv,p,hz⟩:=I.list hq
  obtain ⟨f0,f1,f2,f3,f4,f5⟩:=hf it (by simp)
  have hl:=rv.length
  exact wpAny_pyNext_list_end (I.ok.hd hc) st p.isList (by simp;omega) fun h' eb=>⟨rfl,I.turned (t':=s.toks) (fun b o hb e=>eb b o hb e) f0 f1 f3 f4 f5⟩
 self:=fun _ _ _ _ _ st h=>wpAny_pyIter_listiter st h
theorem uc {P:Program} {w:World} {K:PySem.W.Frag} {tg:Expr} (a it:Addr):Turn P w K tg (Itt K a) [it] it (fun i h=>h.IsTupleIter it a i) where
 mem:=by simp
 obj:=fun i h st b hb=>by
  have e:b=it:=by simpa using hb
  subst e
  obtain ⟨o,e,c,d⟩:=st
  exact ⟨o,e,fun v z=>by rw [d] at z;cases z⟩
 keep:=fun i h h' st k=>st.at fun o e=>k it (by simp) o e
 item:=by
  intro X hP hw hK hc i pins s σ H E I hf st hg
  subst hP hw hK
  obtain ⟨xs,x,hq,hx⟩:=hg
  obtain ⟨its,rv,p,hz⟩:=I.tuple hq
  obtain ⟨u,hu,ru⟩:=rv.get hx
  obtain ⟨f0,f1,f2,f3,f4,f5⟩:=hf it (by simp)
  refine wpAny_pyNext_tuple_item st (show s.heap.IsTuple a its.toArray from p) (x:=u) (by simpa using hu) fun h' st' sb=>?_
  have I1:Inv X pins σ H { s with heap:=h' }:=I.turned (t':=s.toks) (fun b o hb e=>(sb.2 b hb).trans e) f0 f1 f3 f4 f5
  obtain ⟨o,e,c,d⟩:=id st'
  exact ⟨u,rfl,CK (s:={ s with heap:=h' }) e c d (by decide) ⟨x,H,I1,ru,⟨rfl,fun ys hy=>by rw [I.tuple_inj hy hq];exact hx⟩,st',fun b hb=>(hf b hb).1⟩⟩
 done:=by
  intro X hP hw hK hc i pins s σ H E I hf st hg
  subst hP hw hK
  obtain ⟨xs,hq,hx⟩:=hg
  obtain ⟨its,rv,p,hz⟩:=I.tuple hq
  obtain ⟨f0,f1,f2,f3,f4,f5⟩:=hf it (by simp)
  have hl:=rv.length
  exact wpAny_pyNext_tuple_end (I.ok.hd hc) st (show s.heap.IsTuple a its.toArray from p) (by simp;omega) fun h' eb=>⟨rfl,I.turned (t':=s.toks) (fun b o hb e=>eb b o hb e) f0 f1 f3 f4 f5⟩
 self:=fun _ _ _ _ _ st h=>wpAny_pyIter_tupleiter st h
theorem BW {P:Program} {w:World} {K:PySem.W.Frag} {tg:Expr} (it:Addr) (lo:Int) (n:Nat):Turn P w K tg (Itr lo n) [it] it (fun i h=>IsRangeIter h it (lo+(i:Nat)*1) ((n:Int) - (i:Nat)) 1) where
 mem:=by simp
 obj:=fun i h st b hb=>by
  have e:b=it:=by simpa using hb
  subst e
  exact ⟨_,st,fun v z=>by
   have z':Data.fields _=Data.cell v:=z
   cases z'⟩
 keep:=fun i h h' st k=>k it (by simp) _ st
 item:=by
  intro X hP hw hK hc i pins s σ H E I hf st hg
  subst hP hw hK
  obtain ⟨f0,f1,f2,f3,f4,f5⟩:=hf it (by simp)
  have W:=Walks.range (prog:=X.prog) (w:=X.w) (I.ok.hd hc) it lo 1 n
  refine W.item i s _ _ hg st fun v h' tk hv st' kk=>?_
  obtain ⟨t,rfl⟩:=hv
  have I1:Inv X pins σ H { s with heap:=h',toks:=tk }:=I.turned (fun b o hb e=>kk b o (by simpa using hb) e) f0 f1 f3 f4 f5
  refine ⟨_,rfl,CK (s:={ s with heap:=h',toks:=tk }) (n:= "range_iterator") st' rfl rfl (by decide) ⟨.int (lo+i),H,I1,⟨t,?_⟩,⟨rfl,rfl⟩,st',fun b hb=>(hf b hb).1⟩⟩
  rw [Int.mul_one]
 done:=by
  intro X hP hw hK hc i pins s σ H E I hf st hg
  subst hP hw hK
  obtain ⟨f0,f1,f2,f3,f4,f5⟩:=hf it (by simp)
  exact wpAny_pyNext_range_end (I.ok.hd hc) st (by have:n<=i:=hg;omega) fun h' eb=>⟨rfl,I.turned (t':=s.toks) (fun b o hb e=>eb b o hb e) f0 f1 f3 f4 f5⟩
 self:=fun _ _ _ _ _ st h=>wpAny_pyIter_rangeiter st h
section
variable {X:Cx} {tg:Expr}
noncomputable def Ws (K:PySem.W.Frag) (tl:TE):TI:=fun σ H R=>tl σ H fun x H1=>∃ a,x = .ref a∧(∃ xs,SqT K H1 a xs)∧R (Itt K a) H1
theorem Sd {l:Expr} {tl:TE} (hl:PE X l tl):PI X tg l (Ws X.K tl):=by
 intro pins s σ H R I h
 refine thn (hl pins s σ H _ I h) fun v s1 hh2=>?_
 obtain ⟨x,H1,I1,r1,q1⟩:=hh2
 obtain ⟨a,e,⟨xs,hq⟩,q⟩:=q1
 subst e
 cases r1
 obtain ⟨its,rv,p,hz⟩:=I1.tuple hq
 refine wpAny_pyIter_tuple (show s1.heap.IsTuple a its.toArray from p) ?_
 refine ⟨s1.heap.objs.size,[s1.heap.objs.size],_,_,H1,rfl,I1.kept (t':=s1.toks) fun b o e=>Heap.get?_push_of_some _ e,uc a _,⟨_,Heap.get?_push_size _ rfl,rfl,rfl⟩,fun b hb=>?_,q⟩
 have e:b=s1.heap.objs.size:=by simpa using hb
 subst e
 exact I1.fpOk (Nat.le_refl _) (I1.hok.fresh (Nat.le_refl _))
theorem zM {pins:List (Addr×Obj)} {σ : St} {H:Hp} {s:Shared} {R:It->Hp->Prop} {E:Value->Shared->Prop} {lo hi:Int} {t u v:Tok} {tk:Nat} (I:Inv X pins σ H s) (h1 : -(2 ^ 62)<=lo) (h2:lo<2 ^ 62) (h3 : -(2 ^ 62)<=hi) (h4:hi<2 ^ 62)
  (q:R (Itr lo (hi - lo).toNat) H):wpAny (model X.prog X.w) X.A (pyIter (.ref s.heap.objs.size)) (PIE X pins σ tg R) E { s with heap:=s.heap.push { cls:=.type "range",data:=.fields #[.int lo t,.int hi u,.int 1 v] },toks:=tk }:=by
 refine wpAny_pyIter_range (IsRange.new ..) (small_one h1 h2 h3 h4) ?_
 have I1:Inv X pins σ H { s with heap:=s.heap.push { cls:=.type "range",data:=.fields #[.int lo t,.int hi u,.int 1 v] },toks:=tk }:=I.kept fun b o e=>Heap.get?_push_of_some _ e
 refine ⟨(s.heap.push { cls:=.type "range",data:=.fields #[.int lo t,.int hi u,.int 1 v] }).objs.size,[(s.heap.push { cls:=.type "range",data:=.fields #[.int lo t,.int hi u,.int 1 v] }).objs.size],_,_,H,rfl,
  I1.kept (t':=tk) fun b o e=>Heap.get?_push_of_some _ e,BW _ lo (hi - lo).toNat,?_,fun b hb=>?_,q⟩
 ·have e1:lo+((0:Nat):Int)*1=lo:=by simp
  have e2:(((hi - lo).toNat:Nat):Int) - ((0:Nat):Int)=Builtin.Range.rangeSize lo hi 1:=by rw [rangeSize_one];split <;> omega
  show IsRangeIter _ _ (lo+((0:Nat):Int)*1) ((((hi - lo).toNat:Nat):Int) - ((0:Nat):Int)) 1
  rw [e1,e2]
  exact Heap.get?_push_size _ rfl
 ·have e:b=(s.heap.push { cls:=.type "range",data:=.fields #[.int lo t,.int hi u,.int 1 v] }).objs.size:=by simpa using hb
  subst e
  exact I1.fpOk (Nat.le_refl _) (I1.hok.fresh (Nat.le_refl _))
noncomputable def Ut (ta:TA):TI:=fun σ H R=>ta σ H fun vs H1=>∃ j:Int,vs=[.int j] ∧ -(2 ^ 62)<=j∧j<2 ^ 62∧R (Itr 0 j.toNat) H1
noncomputable def Uu (ta:TA):TI:=fun σ H R=>ta σ H fun vs H1=>∃ i j:Int,vs=[.int i,.int j]∧(-(2 ^ 62)<=i∧i<2 ^ 62 ∧ -(2 ^ 62)<=j∧j<2 ^ 62)∧R (Itr i (j - i).toNat) H1
theorem FT {a:Expr} {ta:TA} {p pos:Pos} (hg:Gl X "range") (hm:X.mg "range" = none) (ha:PA X [a] ta) (hs:starEach [a] X.env=[(false,eval a X.env)]:=by rfl):PI X tg (.Call (.Name "range" p) [a] [] pos) (Ut ta):=by
 intro pins s σ H R I h
 refine Call_ (lN I hg hm boot_range (PyProof.Rows.callWith_type1 (thn (ha pos pins s σ H _ I h) fun us s1 ⟨vs,H1,I1,r1,q1⟩=>?_) hs rfl))
 obtain ⟨j,e,q1,q2,q⟩:=q1
 subst e
 cases r1 with
 | cons r rr=>
  cases rr
  obtain ⟨t,rfl⟩:=r
  exact call_range_1 (zM I1 (by omega) (by omega) q1 q2 (by simpa using q))
theorem FW {a b:Expr} {ta:TA} {p pos:Pos} (hg:Gl X "range") (hm:X.mg "range" = none) (ha:PA X [a,b] ta) (hs:starEach [a,b] X.env=[(false,eval a X.env),(false,eval b X.env)]:=by rfl) (hs2:starEach [b] X.env=[(false,eval b X.env)]:=by rfl) :
  PI X tg (.Call (.Name "range" p) [a,b] [] pos) (Uu ta):=by
 intro pins s σ H R I h
 refine Call_ (lN I hg hm boot_range (PyProof.Rows.callWith_type1 (thn (ha pos pins s σ H _ I h) fun us s1 ⟨vs,H1,I1,r1,q1⟩=>?_) (by rw [hs,hs2]) (by rw [hs2];rfl)))
 obtain ⟨i,j,e,⟨q1,q2,q3,q4⟩,q⟩:=q1
 subst e
 cases r1 with
 | cons r rr=>
  cases rr with
  | cons r' rr=>
   cases rr
   obtain ⟨t,rfl⟩:=r
   obtain ⟨t',rfl⟩:=r'
   exact call_range_2 (zM I1 q1 q2 q3 q4 q)
noncomputable def WF (wi:TI) (g:TG) (tb:TS):TS:=fun D σ H=>wi σ H fun J H1=>∃ W:Nat->Nat->St->Hp->Prop,(∃ m,W 0 m σ H1) ∧ ∀ i m σ H,W i m σ H ->
 (J.stop i H∧D.nx σ H)∨(J.go i H ∧ ∃ N:St->Hp->Prop,(∀ σ' H',N σ' H' -> ∃ m',m'<m∧W (i+1) m' σ' H') ∧ ∀ x H',J.yld i H x H'->g x σ H' fun σ2 H2=>tb { D with nx:=N,ct:=N,bk:=D.nx } σ2 H2)
noncomputable def qm (fp:List Addr) (h:Heap):List (Addr×Obj):=fp.filterMap fun b=>(h.get? b).map fun o=>(b,o)
theorem iQ {fp:List Addr} {h:Heap} {b:Addr} {o:Obj} (hb:b∈fp) (e:h.get? b=some o):(b,o)∈qm fp h:=List.mem_filterMap.mpr ⟨b,hb,by rw [e];rfl⟩
theorem Fq {fp:List Addr} {h:Heap} {p:Addr×Obj} (hp:p∈qm fp h):p.1∈fp∧h.get? p.1=some p.2:=by
 obtain ⟨b,hb,e⟩:=List.mem_filterMap.mp hp
 cases q:h.get? b with
 | none=>rw [q] at e;cases e
 | some o=>
  rw [q] at e
  have e':(b,o)=p:=Option.some.inj e
  subst e'
  exact ⟨hb,q⟩
theorem Inv.pinned {pins:List (Addr×Obj)} {σ : St} {H:Hp} {s:Shared} {fp:List Addr} (I:Inv X pins σ H s) (hf:∀ b∈fp,oG X pins H b) (ho:∀ b∈fp,∃ o,s.heap.get? b=some o ∧ ∀ v,o.data ≠ .cell v):Inv X (pins++qm fp s.heap) σ H s:=
 I.pins_of fun p hp=>(List.mem_append.mp hp).elim (fun z=>I.pin p (List.mem_append_right _ z)) fun z=>by
  obtain ⟨hb,e⟩:=Fq z
  obtain ⟨f0,f1,f2,_⟩:=hf p.1 hb
  obtain ⟨o,e',d⟩:=ho p.1 hb
  rw [e] at e';cases e'
  exact ⟨e,f0,f1,f2,d⟩
theorem Inv.unpinned {pins pl:List (Addr×Obj)} {σ : St} {H:Hp} {s:Shared} (I:Inv X (pins++pl) σ H s):Inv X pins σ H s:=I.pins_of fun p hp=>I.pin p (List.mem_append_right _ (List.mem_append_left _ hp))
theorem Sg {iter:Expr} {body:List Stmt} {wi:TI} {g:TG} {tb:TS} {pos:Pos} (hp:PassesOwn (model X.prog X.w) X.A X.env X.xe) (hc:X.calm=true) (hi:PI X tg iter wi) (hg:PG X tg g) (hb:PSs X body tb)
  (hs:∀ x,foldedSetIterable iter X.env x=pure x:=by intro _;rfl):PS X (.For tg iter body [] pos) (WF wi g tb):=by
 intro pins s σ H D I h
 refine wpAny_For (thn (hi pins s σ H _ I h) fun v s1 h1=>thn h1 fun itv s2 h2=>?_) hs
 obtain ⟨it,fp,tn,J,H2,e,I2,T,st2,f2,W,⟨m0,w0⟩,turn⟩:=h2
 subst e
 have stat:∀ {H':Hp},(∀ b∈fp,H' b=none) -> ∀ b∈fp,oG X pins H' b:=fun hn b hb=>⟨hn b hb,(f2 b hb).2⟩
 refine codeAny_forLoop_any (fun n s'=>∃ i σ' H',Inv X pins σ' H' s'∧tn i s'.heap∧(∀ b∈fp,H' b=none)∧W i n σ' H') ?_ m0 ⟨0,σ,H2,I2,st2,fun b hb=>(f2 b hb).1,w0⟩
 rintro n s3 ⟨i,σ3,H3,I3,st3,fr3,w3⟩
 rcases turn i n σ3 H3 w3 with ⟨stop,qn⟩ | ⟨go,N,hN,step⟩
 ·refine wpAny_passesOwn hp (thn (T.done X rfl rfl rfl hc i pins s3 σ3 H3 X.xe I3 (stat fr3) st3 stop) fun r s4 ⟨hr,I4⟩=>?_)
  subst hr
  exact wpAny_execs_nil ⟨σ3,H3,I4,qn⟩
 ·refine wpAny_passesOwn hp (thn (T.item X rfl rfl rfl hc i pins s3 σ3 H3 X.xe I3 (stat fr3) st3 go) fun r s4 ⟨u,hr,h4⟩=>?_)
  subst hr
  refine wpAny_passesOwn hp (thn h4 fun _ s5 ⟨x,H5,I5,r5,y5,st5,fr5⟩=>?_)
  have I5':=I5.pinned (stat fr5) (T.obj _ _ st5)
  refine wpAny_passesOwn hp (thn (hg _ s5 σ3 H5 x u _ I5' r5 (step x H5 y5)) fun _ s6 ⟨σ6,H6,I6,q6⟩=>?_)
  refine wpAny_passesOwn hp (thn (hb _ s6 σ6 H6 _ I6 q6) fun f s7 q7=>?_)
  have again:∀ {σ7:St} {H7:Hp},Inv X (pins++qm fp s5.heap) σ7 H7 s7->N σ7 H7 -> ∃ m,m<n ∧ ∃ i σ' H',Inv X pins σ' H' s7∧tn i s7.heap∧(∀ b∈fp,H' b=none)∧W i m σ' H':=fun {σ7 H7} I7 n7=>by
   obtain ⟨m',hm,w7⟩:=hN σ7 H7 n7
   refine ⟨m',hm,i+1,σ7,H7,I7.unpinned,T.keep _ _ _ st5 fun b hb o e=>(I7.pin (b,o) (List.mem_append_right _ (List.mem_append_right _ (iQ hb e)))).1,fun b hb=>?_,w7⟩
   obtain ⟨o,e,d⟩:=T.obj _ _ st5 b hb
   exact (I7.pin (b,o) (List.mem_append_right _ (List.mem_append_right _ (iQ hb e)))).2.1
  cases f with
  | next=>obtain ⟨σ7,H7,I7,n7⟩:=q7;exact again I7 n7
  | cont=>obtain ⟨σ7,H7,I7,n7⟩:=q7;exact again I7 n7
  | brk=>obtain ⟨σ7,H7,I7,q7⟩:=q7;exact ⟨σ7,H7,I7.unpinned,q7⟩
  | ret v=>obtain ⟨x7,σ7,H7,I7,r7,q7⟩:=q7;exact ⟨x7,σ7,H7,I7.unpinned,r7,q7⟩
end
noncomputable abbrev R2:=V->V->Hp->VK->Prop
noncomputable def OpR (X:Cx) (f:Value->Value->Sem Value) (r:R2):Prop:=
 ∀ (pins:List (Addr×Obj)) (s:Shared) (σ : St) (H:Hp) (x y:V) (v u:Value) (Q:VK),Inv X pins σ H s->RelV x v->RelV y u->r x y H Q ->
  wpAny (model X.prog X.w) X.A (f v u) (EP X pins σ Q) X.xe s
noncomputable def UnR (X:Cx) (f:Value->Sem Value) (r:V->Hp->VK->Prop):Prop:=
 ∀ (pins:List (Addr×Obj)) (s:Shared) (σ : St) (H:Hp) (x:V) (v:Value) (Q:VK),Inv X pins σ H s->RelV x v->r x H Q ->
  wpAny (model X.prog X.w) X.A (f v) (EP X pins σ Q) X.xe s
noncomputable def gO (X:Cx) (f:Value) (r:List V->Hp->VK->Prop):Prop:=
 ∀ (pins:List (Addr×Obj)) (s:Shared) (σ : St) (H:Hp) (xs:List V) (us:List Value) (Q:VK),Inv X pins σ H s->Vals xs us->r xs H Q ->
  wpAny (model X.prog X.w) X.A (call f us) (EP X pins σ Q) X.xe s
noncomputable def Wi (X:Cx) (r:V->Hp->(Bool->Hp->Prop)->Prop):Prop:=
 ∀ (pins:List (Addr×Obj)) (s:Shared) (σ : St) (H:Hp) (x:V) (v:Value) (Q:Bool->Hp->Prop),Inv X pins σ H s->RelV x v->r x H Q ->
  wpAny (model X.prog X.w) X.A (truthy v) (TP X pins σ Q) X.xe s
noncomputable def tOp (r:R2) (ta tb:TE):TE:=fun σ H Q=>ta σ H fun x H1=>tb σ H1 fun y H2=>r x y H2 Q
noncomputable def tUn (r:V->Hp->VK->Prop) (ta:TE):TE:=fun σ H Q=>ta σ H fun x H1=>r x H1 Q
noncomputable def rI (C:Int->Int->Prop) (g:Int->Int->V):R2:=fun x y H Q=>∃ i j,x = .int i∧y = .int j∧C i j∧Q (g i j) H
noncomputable def rI0 (g:Int->Int->V):R2:=fun x y H Q=>∃ i j,x = .int i∧y = .int j∧Q (g i j) H
noncomputable def rU (g:Int->V):V->Hp->VK->Prop:=fun x H Q=>∃ i,x = .int i∧Q (g i) H
section
variable {X:Cx} {a b c:Expr} {ta tb tc:TE} {pos:Pos}
theorem Qh (ha:PE X a ta) (hb:PE X b tb) {pins:List (Addr×Obj)} {s:Shared} {σ : St} {H:Hp} {R:V->V->Hp->Prop} (I:Inv X pins σ H s)
  (h:ta σ H fun x H1=>tb σ H1 fun y H2=>R x y H2) {Q:Value->Shared->Prop} {f:Value->Value->Sem Value}
  (hf:∀ v u s2 x y H2,Inv X pins σ H2 s2->RelV x v->RelV y u->R x y H2->wpAny (model X.prog X.w) X.A (f v u) Q X.xe s2) :
  wpAny (model X.prog X.w) X.A (eval a X.env) (fun v s₁ => wpAny (model X.prog X.w) X.A (eval b X.env) (fun u s₂ => wpAny (model X.prog X.w) X.A (f v u) Q X.xe s₂) X.xe s₁) X.xe s:=by
 refine thn (ha pins s σ H _ I h) fun v s1 hh3=>?_
 obtain ⟨x,H1,I1,r1,q1⟩:=hh3
 refine thn (hb pins s1 σ H1 _ I1 q1) fun u s2 hh4=>?_
 obtain ⟨y,H2,I2,r2,q2⟩:=hh4
 exact hf v u s2 x y H2 I2 r1 r2 q2
theorem Uz {op:Operator} {r:R2} (ho:OpR X (binaryOp op) r) (ha:PE X a ta) (hb:PE X b tb):PE X (.BinOp a op b pos) (tOp r ta tb):=by
 intro pins s σ H Q I h
 exact wpAny_BinOp (Qh ha hb I h fun v u s2 x y H2 I2 rx ry q=>ho pins s2 σ H2 x y v u Q I2 rx ry q)
theorem UJ {op:UnaryOp} {r:V->Hp->VK->Prop} (ho:UnR X (unaryOp op) r) (ha:PE X a ta):PE X (.UnaryOp op a pos) (tUn r ta):=by
 intro pins s σ H Q I h
 exact UnaryOp_ (thn (ha pins s σ H _ I h) fun v s1 ⟨x,H1,I1,r1,q1⟩=>ho pins s1 σ H1 x v Q I1 r1 q1)
theorem opI {f:Value->Value->Sem Value} {C:Int->Int->Prop} {g:Int->Int->Int}
  (rule:∀ (i j:Int) (t u:Tok) (s:Shared) (Q:Value->Shared->Prop) (E:Value->Shared->Prop),C i j->Q (.int (g i j) s.toks) { s with toks:=s.toks+1 }->wpAny (model X.prog X.w) X.A (f (.int i t) (.int j u)) Q E s) :
  OpR X f (rI C fun i j=>.int (g i j)):=by
 intro pins s σ H x y v u Q I rx ry h
 obtain ⟨i,j,rfl,rfl,hc,q⟩:=h
 obtain ⟨t,rfl⟩:=rx
 obtain ⟨t',rfl⟩:=ry
 exact rule i j t t' s _ _ hc ⟨.int (g i j),H,I.tok _,⟨_,rfl⟩,q⟩
theorem Ux {f:Value->Value->Sem Value} {g:Int->Int->Int}
  (rule:∀ (i j:Int) (t u:Tok) (s:Shared) (Q:Value->Shared->Prop) (E:Value->Shared->Prop),Q (.int (g i j) s.toks) { s with toks:=s.toks+1 }->wpAny (model X.prog X.w) X.A (f (.int i t) (.int j u)) Q E s) :
  OpR X f (rI0 fun i j=>.int (g i j)):=by
 intro pins s σ H x y v u Q I rx ry h
 obtain ⟨i,j,rfl,rfl,q⟩:=h
 obtain ⟨t,rfl⟩:=rx
 obtain ⟨t',rfl⟩:=ry
 exact rule i j t t' s _ _ ⟨.int (g i j),H,I.tok _,⟨_,rfl⟩,q⟩
theorem RD {f:Value->Value->Sem Value} {g:Int->Int->Bool}
  (rule:∀ (i j:Int) (t u:Tok) (s:Shared) (Q:Value->Shared->Prop) (E:Value->Shared->Prop),Q (.bool (g i j)) s->wpAny (model X.prog X.w) X.A (f (.int i t) (.int j u)) Q E s) :
  OpR X f (rI0 fun i j=>.bl (g i j)):=by
 intro pins s σ H x y v u Q I rx ry h
 obtain ⟨i,j,rfl,rfl,q⟩:=h
 obtain ⟨t,rfl⟩:=rx
 obtain ⟨t',rfl⟩:=ry
 exact rule i j t t' s _ _ ⟨.bl (g i j),H,I,rfl,q⟩
noncomputable def TV (i j:Int):Prop:=0<=j∧j<=1000000∧i.natAbs<2 ^ 64
noncomputable def TQ (i j:Int):Prop:=(-(2 ^ 64)<i∧i<2 ^ 64)∨(-(2 ^ 64)<j∧j<2 ^ 64)
theorem RG:OpR X (binaryOp .Add) (rI0 fun i j=>.int (i+j)):=Ux fun _ _ _ _ _ _ _ q=>add_int q
theorem nY:OpR X (binaryOp .Sub) (rI0 fun i j=>.int (i - j)):=Ux fun _ _ _ _ _ _ _ q=>sub_int q
theorem jd:OpR X (binaryOp .Mod) (rI (fun _ j=>j≠0) fun i j=>.int (i.fmod j)):=opI fun _ _ _ _ _ _ _ hc q=>mod_int' hc q
theorem Bs:OpR X (binaryOp .Pow) (rI TV fun i j=>.int (i ^ j.toNat)):=opI fun _ _ _ _ _ _ _ hc q=>pow_int_small hc.1 hc.2.1 hc.2.2 q
theorem unI {f:Value->Sem Value} {g:Int->Int}
  (rule:∀ (i:Int) (t:Tok) (s:Shared) (Q:Value->Shared->Prop) (E:Value->Shared->Prop),Q (.int (g i) s.toks) { s with toks:=s.toks+1 }->wpAny (model X.prog X.w) X.A (f (.int i t)) Q E s) :
  UnR X f (rU fun i=>.int (g i)):=by
 intro pins s σ H x v Q I rx h
 obtain ⟨i,rfl,q⟩:=h
 obtain ⟨t,rfl⟩:=rx
 exact rule i t s _ _ ⟨.int (g i),H,I.tok _,⟨_,rfl⟩,q⟩
theorem Tw:UnR X (unaryOp .USub) (rU fun i=>.int (-i)):=unI fun _ _ _ _ _ q=>neg_int q
end
section
variable {X:Cx} {a b c:Expr} {ta tb tc:TE} {pos:Pos}
theorem Aw {pins:List (Addr×Obj)} {σ : St} {H:Hp} {s:Shared} {Q:VK} {k k':Bool} (I:Inv X pins σ H s) (q:Q (.bl k) H) (e:k=k'):EP X pins σ Q (.bool k') s:=by
 subst e
 exact ⟨.bl k,H,I,rfl,q⟩
theorem Dm:OpR X (compareOp .Lt) (rI0 fun i j=>.bl (decide (i<j))):=RD fun _ _ _ _ _ _ _ q=>lt_int q
theorem zB:OpR X (compareOp .LtE) (rI0 fun i j=>.bl (decide (i<=j))):=RD fun _ _ _ _ _ _ _ q=>le_int q
theorem Dl:OpR X (compareOp .Gt) (rI0 fun i j=>.bl (decide (j<i))):=RD fun _ _ _ _ _ _ _ q=>gt_int q
theorem Fx:OpR X (compareOp .In) (fun x y H Q=>∃ i j,x = .str i∧y = .str j∧Q (.bl (!(Builtin.Str.occurrences j i 0 j.length 1).isEmpty)) H):=by
 intro pins s σ H x y v u Q I rx ry h
 obtain ⟨i,j,rfl,rfl,q⟩:=h
 obtain ⟨t,rfl⟩:=rx
 obtain ⟨t',rfl⟩:=ry
 exact in_str (Aw I q rfl)
theorem Br:OpR X (compareOp .Is) (fun x y H Q=>y = .non∧Q (.bl (decide (x = .non))) H):=by
 intro pins s σ H x y v u Q I rx ry h
 obtain ⟨rfl,q⟩:=h
 cases ry
 refine is_none_gen (Aw I q ?_)
 cases x <;> first
  | (cases rx;rfl)
  | (obtain ⟨t,rfl⟩:=rx;rfl)
theorem Dn:OpR X (compareOp .IsNot) (fun x y H Q=>y = .non∧Q (.bl (!decide (x = .non))) H):=by
 intro pins s σ H x y v u Q I rx ry h
 obtain ⟨rfl,q⟩:=h
 cases ry
 refine isnot_none_gen (Aw I q ?_)
 cases x <;> first
  | (cases rx;rfl)
  | (obtain ⟨t,rfl⟩:=rx;rfl)
theorem OpR.or {f:Value->Value->Sem Value} {r r':R2} (h:OpR X f r) (h':OpR X f r'):OpR X f (fun x y H Q=>r x y H Q∨r' x y H Q):=by
 intro pins s σ H x y v u Q I rx ry q
 rcases q with q | q
 ·exact h pins s σ H x y v u Q I rx ry q
 ·exact h' pins s σ H x y v u Q I rx ry q
theorem cB (b:Expr) {op:CmpOp} (h:op ≠ .In:=by decide) (h2:op ≠ .NotIn:=by decide):behindInMarks op b=false:=by
 have e1:(op==CmpOp.In)=false:=by cases op <;> first | rfl | exact absurd rfl h
 have e2:(op==CmpOp.NotIn)=false:=by cases op <;> first | rfl | exact absurd rfl h2
 cases b <;> simp [behindInMarks,e1,e2]
theorem Nf {op:CmpOp} {r:R2} (ho:OpR X (compareOp op) r) (ha:PE X a ta) (hb:PE X b tb) (hm:behindInMarks op b=false):PE X (.Compare a [op] [b] pos) (tOp r ta tb):=by
 intro pins s σ H Q I h
 exact wpAny_Compare1 (Qh ha hb I h fun v u s2 x y H2 I2 rx ry q=>ho pins s2 σ H2 x y v u Q I2 rx ry q) hm
noncomputable def VM (t:TE):TT:=fun σ H Q=>t σ H fun x H'=>∃ k,x = .bl k∧Q k H'
theorem Nt {op:CmpOp} {r:R2} (ho:OpR X (compareOp op) r) (ha:PE X a ta) (hb:PE X b tb) (hm:behindInMarks op b=false):PT X (.Compare a [op] [b] pos) (VM (tOp r ta tb)):=by
 intro pins s σ H Q I h
 refine wpAny_isTrue_Compare1 (thn (ha pins s σ H _ I h) fun v s1 ⟨x,H1,I1,r1,q1⟩=>thn (hb pins s1 σ H1 _ I1 q1) fun u s2 ⟨y,H2,I2,r2,q2⟩=>
  thn (ho pins s2 σ H2 x y v u _ I2 r1 r2 q2) fun c s3 ⟨z,H3,I3,r3,k,e,q3⟩=>?_) hm
 subst e
 cases r3
 exact wpAny_truthy_bool ⟨H3,I3,q3⟩
noncomputable def JR (r r':R2) (ta tb tc:TE):TE:=fun σ H Q=>ta σ H fun x H1=>tb σ H1 fun y H2=>r x y H2 fun z H3=>∃ k,z = .bl k ∧
 (if k=true then tc σ H3 fun w' H4=>r' y w' H4 Q else Q (.bl false) H3)
theorem IK {op op':CmpOp} {r r':R2} (ho:OpR X (compareOp op) r) (ho':OpR X (compareOp op') r') (ha:PE X a ta) (hb:PE X b tb) (hc:PE X c tc)
  (hm:lastMarks [op,op'] [b,c]=false:=by with_unfolding_all rfl):PE X (.Compare a [op,op'] [b,c] pos) (JR r r' ta tb tc):=by
 intro pins s σ H Q I h
 refine Compare_chain (thn (ha pins s σ H _ I h) fun v s1 ⟨x,H1,I1,r1,q1⟩=>chain_link (thn (hb pins s1 σ H1 _ I1 q1) fun u s2 ⟨y,H2,I2,r2,q2⟩=>
  thn (ho pins s2 σ H2 x y v u _ I2 r1 r2 q2) fun d s3 ⟨z,H3,I3,r3,k,e,q3⟩=>?_)) hm
 subst e
 cases r3
 refine wpAny_truthy_bool ?_
 cases k with
 | false=>exact ite_ff ⟨.bl false,H3,I3,rfl,q3⟩
 | true=>exact ite_tt (chain_last (thn (hc pins s3 σ H3 _ I3 q3) fun w' s4 ⟨z',H4,I4,r4,q4⟩=>ho' pins s4 σ H4 y z' u w' Q I4 r2 r4 q4))
noncomputable def Qg (K:PySem.W.Frag) (x:V) (H:Hp) (k:Bool):Prop:=
 match x with
 | .non=>k=false
 | .bl b=>k=b
 | .int i=>k=(i != 0)
 | .str y=>y.length<=sizeLine∧k=((y.length:Int) != 0)
 | .byt y=>y.size<=sizeLine∧k=((y.size:Int) != 0)
 | .ref p=>(∃ xs,SqL K H p xs∧k = !xs.isEmpty)∨(∃ xs,SqT K H p xs∧k = !xs.isEmpty) ∨ ∃ kvs,H p=some (.dK kvs)∧k = !kvs.isEmpty
 | _=>False
theorem Bb {κ : Type} {kvs:List (κ × V)} {vs:List (κ × Value)} (r:KV kvs vs):(!vs.isEmpty) = !kvs.isEmpty:=by
 cases r <;> rfl
theorem sS {xs:List V} {its:List Value} (r:Vals xs its):(!its.toArray.isEmpty) = !xs.isEmpty:=by
 cases r <;> simp
theorem nR:(sizeLine:Nat)<2 ^ 63:=by rw [sizeLine_eq];decide
theorem Tr:Wi X (fun x H Q=>∃ k,Qg X.K x H k∧Q k H):=by
 intro pins s σ H x v Q I rx h
 obtain ⟨k,e,q⟩:=h
 have hl:=nR
 have hs:sizeLine=16777216:=sizeLine_eq
 cases x with
 | non=>
  cases rx
  have e':k=false:=e
  subst e'
  exact truthy_none ⟨H,I,q⟩
 | bl b=>
  cases rx
  have e':k=b:=e
  subst e'
  exact wpAny_truthy_bool ⟨H,I,q⟩
 | int i=>
  obtain ⟨t,rfl⟩:=rx
  have e':k=(i != 0):=e
  subst e'
  exact PySem.P.truthy_int ⟨H,I,q⟩
 | str y=>
  obtain ⟨t,rfl⟩:=rx
  obtain ⟨hy,e'⟩:y.length<=sizeLine∧k=((y.length:Int) != 0):=e
  subst e'
  exact PySem.P.truthy_str (by omega) ⟨H,I.tok _,q⟩
 | byt y=>
  obtain ⟨t,rfl⟩:=rx
  obtain ⟨hy,e'⟩:y.size<=sizeLine∧k=((y.size:Int) != 0):=e
  subst e'
  exact PySem.W.truthy_bytes (by omega) ⟨H,I.tok _,q⟩
 | ref p=>
  cases rx
  have e':(∃ xs,SqL X.K H p xs∧k = !xs.isEmpty)∨(∃ xs,SqT X.K H p xs∧k = !xs.isEmpty) ∨ ∃ kvs,H p=some (.dK kvs)∧k = !kvs.isEmpty:=e
  rcases e' with ⟨xs,hx,e'⟩ | ⟨xs,hx,e'⟩ | ⟨kvs,hx,e'⟩
  ·subst e'
   obtain ⟨its,r,pl,hz⟩:=I.list hx
   have hlen:=r.length
   exact wpAny_truthy_list pl.isList (by simp only [List.size_toArray];omega) ⟨H,I.tok _,by rw [sS r];exact q⟩
  ·subst e'
   obtain ⟨its,r,pl,hz⟩:=I.tuple hx
   have hlen:=r.length
   exact truthy_tuple pl (by simp only [List.size_toArray];omega) ⟨H,I.tok _,by rw [sS r];exact q⟩
  ·subst e'
   obtain ⟨hz,hS,vs,r,m⟩:kvs.length<=sizeLine∧(p==sysModules)=false ∧ ∃ vs,KV kvs vs∧s.heap.DictOf (dB X.prog X.w) p vs:=I.hok p _ hx
   have hlen:kvs.length=vs.length:=Paired.length r
   exact wpAny_truthy_dict hS m (by omega) ⟨H,I.tok _,by rw [Bb r];exact q⟩
 | _=>exact (show False from e).elim
theorem Jk (ha:PE X a ta) (he:∀ whole,isTrue a X.env whole=(do let v ← whole;standAt a.pos;holding [v] (truthy v))) :
  PT X a (fun σ H Q=>ta σ H fun x H'=>∃ k,Qg X.K x H' k∧Q k H'):=by
 intro pins s σ H Q I h
 exact isTrue_plain (thn (ha pins s σ H _ I h) fun v s1 ⟨x,H1,I1,r1,q1⟩=>Tr pins s1 σ H1 x v Q I1 r1 q1) (he _)
theorem Bp:OpR X (binaryOp .Add) (fun x y H Q=>∃ i j,x = .str i∧y = .str j∧i.length+j.length<=sizeLine∧Q (.str (i++j)) H):=by
 intro pins s σ H x y v u Q I rx ry h
 obtain ⟨i,j,rfl,rfl,hz,q⟩:=h
 obtain ⟨t,rfl⟩:=rx
 obtain ⟨t',rfl⟩:=ry
 exact add_str (fun t' tk=>⟨.str (i++j),H,I.tok _,⟨_,rfl⟩,q⟩) hz
theorem vals1 {x:V} {us:List Value} (r:Vals [x] us):∃ u,us=[u]∧RelV x u:=by
 cases r with
 | cons r1 r2=>cases r2;exact ⟨_,rfl,r1⟩
theorem vals2 {x y:V} {us:List Value} (r:Vals [x,y] us):∃ u w',us=[u,w']∧RelV x u∧RelV y w':=by
 cases r with
 | cons r1 r2=>
  cases r2 with
  | cons r3 r4=>cases r4;exact ⟨_,_,rfl,r1,r3⟩
theorem GF:gO X (.builtin "abs") (fun xs H Q=>∃ i,xs=[.int i]∧Q (.int (if i<0 then -i else i)) H):=by
 intro pins s σ H xs us Q I r h
 obtain ⟨i,rfl,q⟩:=h
 obtain ⟨u,rfl,t,rfl⟩:=vals1 r
 exact call_abs_int fun u tk=>⟨.int (if i<0 then -i else i),H,I.tok _,⟨_,rfl⟩,q⟩
theorem Eo (hc:X.calm=true):gO X (.builtin "max") (fun xs H Q=>∃ i j,xs=[.int i,.int j]∧Q (.int (if j>i then j else i)) H):=by
 intro pins s σ H xs us Q I r h
 obtain ⟨i,j,rfl,q⟩:=h
 obtain ⟨u,w',rfl,⟨t,rfl⟩,⟨t',rfl⟩⟩:=vals2 r
 refine max_two_ints (I.ok.hd hc) fun h' tk k=>⟨_,H,I.kept k,?_,q⟩
 by_cases hj:j>i
 ·rw [if_pos hj,if_pos hj];exact ⟨_,rfl⟩
 ·rw [if_neg hj,if_neg hj];exact ⟨_,rfl⟩
theorem uV (hc:X.calm=true):gO X (.builtin "min") (fun xs H Q=>∃ i j,xs=[.int i,.int j]∧Q (.int (if j<i then j else i)) H):=by
 intro pins s σ H xs us Q I r h
 obtain ⟨i,j,rfl,q⟩:=h
 obtain ⟨u,w',rfl,⟨t,rfl⟩,⟨t',rfl⟩⟩:=vals2 r
 refine min_two_ints (I.ok.hd hc) fun h' tk k=>⟨_,H,I.kept k,?_,q⟩
 by_cases hj:j<i
 ·rw [if_pos hj,if_pos hj];exact ⟨_,rfl⟩
 ·rw [if_neg hj,if_neg hj];exact ⟨_,rfl⟩
theorem pR:gO X (.type "int") (fun xs H Q=>(∃ i,xs=[.int i]∧Q (.int i) H) ∨ ∃ k,xs=[.bl k]∧Q (.int (if k then 1 else 0)) H):=by
 intro pins s σ H xs us Q I r h
 rcases h with ⟨i,rfl,q⟩ | ⟨k,rfl,q⟩
 ·obtain ⟨u,rfl,t,rfl⟩:=vals1 r
  exact call_int_int ⟨.int i,H,I,⟨_,rfl⟩,q⟩
 ·obtain ⟨u,rfl,r1⟩:=vals1 r
  cases r1
  exact call_int_bool ⟨.int (if k then 1 else 0),H,I.tok _,⟨_,rfl⟩,q⟩
theorem dI:gO X (.type "str") (fun xs H Q=>∃ i,xs=[.int i]∧i.natAbs.log2<1920∧Q (.str (toString i)) H):=by
 intro pins s σ H xs us Q I r h
 obtain ⟨i,rfl,hz,q⟩:=h
 obtain ⟨u,rfl,t,rfl⟩:=vals1 r
 exact PySem.P.str_of_int hz ⟨.str _,H,I.tok _,⟨_,rfl⟩,q⟩
end
structure ObjM (h:Heap) (x dx C:Addr) (mA:Str->Option Value):Prop where
 obj:h.get? x=some (PySem.W.instObj C dx)
 ns:h.Ns1 dx mA
 ne:dx≠x
theorem Fl {h:Heap} {dx:Addr} {mA:Str->Option Value} (n:h.Ns1 dx mA):∃ od,h.get? dx=some od ∧ ∀ name,PySem.W.lookIn name od=some (mA name):=by
 obtain ⟨o,es,ep,ho,hd,hk,_,hm⟩:=n
 refine ⟨o,ho,fun name=>?_⟩
 have e:=hm name
 unfold nsFind findBy at e
 rw [← Array.find?_toList] at e
 unfold PySem.W.lookIn
 rw [hd]
 dsimp only
 split
 ·rename_i y q
  rw [q] at e
  exact congrArg some e
 ·rename_i q
  rw [q] at e
  have a:es.toList.any (·.refKey)=false:=by
   rw [List.any_eq_false]
   intro y hy
   obtain ⟨z,t,hkey⟩:=hk y (Array.mem_toList_iff.mp hy)
   simp [DictEntry.refKey,hkey]
  have a':¬ es.toList.any (·.refKey)=true:=by rw [a];exact Bool.false_ne_true
  rw [if_neg a']
  exact congrArg some e
theorem ObjM.look {h:Heap} {x dx C:Addr} {mA:Str->Option Value} (I:ObjM h x dx C mA):∃ od,PySem.W.InstAt h x (PySem.W.instObj C dx) C (some od) ∧ ∀ name,PySem.W.lookIn name od=some (mA name):=
 let ⟨od,ho,hl⟩:=Fl I.ns
 ⟨od,⟨I.obj,rfl,rfl,ho⟩,hl⟩
section
variable {prog:Program} {w:World} {A:Around} {E:Value->Shared->Prop} {s:Shared} {K:PySem.W.Frag} {x dx C f:Addr} {mA:Str->Option Value} {name:Str} {v:Value}
end
theorem vN.some_of {v:V} {o:Option Value} (r:vN (some v) o):∃ u,o=some u∧RelV v u:=by
 cases o with
 | none=>exact (show False from r).elim
 | some u=>exact ⟨u,rfl,r⟩
section
variable {P:Program} {w:World} {H H':Hp} {h h':Heap} {a C dx:Addr} {fs fs':List (Str×V)}
theorem LK (hok:HOk P w H h) (e:H a=some (.ins C dx fs)):∃ mA,ObjM h a dx C mA∧(∀ f,vN (fs.lookup f) (mA f))∧PySem.Within mA (fs.map (·.1))∧fs.length<=1000∧H dx=some (.own a):=by
 obtain ⟨d,z,ne,ob,mA,n,r,q⟩:=(show fP P w H h a (.ins C dx fs) from hok a _ e)
 exact ⟨mA,⟨ob,n,ne⟩,r,q,z,d⟩
end
structure Cls (K:PySem.W.Frag) (C:Addr):Prop where
 pg:PySem.W.plainGet K C Str.empty=true
 hd:PySem.W.hasDictIn K C=true
 po:PySem.W.plainOver K C=true
 sa:PySem.W.findIn K (.ref C) "__setattr__" = some (some (.builtin "object.__setattr__"))
theorem Cls.get {K:PySem.W.Frag} {C:Addr} (c:Cls K C) (f:Str):PySem.W.plainGet K C f=true:=c.pg
structure Con (K:PySem.W.Frag) (C:Addr) (f:Str) (v:V) (u:Value):Prop where
 at_:PySem.W.findIn K (.ref C) f=some (some u)
 rel:RelV v u
 get:PySem.W.specialIn K u "__get__" = some none
 cp:PySem.W.copiedNames.contains f=false
structure Meth (K:PySem.W.Frag) (C:Addr) (m:Str) (f:Addr):Prop where
 at_:PySem.W.findIn K (.ref C) m=some (some (.ref f))
 fn:PySem.W.isFn K (.ref f)=true
 kp:PySem.W.keepIn K (.ref f)=true
section
variable {X:Cx} {pins:List (Addr×Obj)} {σ : St} {H:Hp} {s:Shared} {a C dx:Addr} {fs:List (Str×V)} {f:Str} {v:V} {A:Around} {E:Value->Shared->Prop}
end
section
variable {X:Cx} {o e value:Expr} {f:Str} {pos pos' tpos:Pos} {ta tv:TE}
end
section
variable {X:Cx} {pins:List (Addr×Obj)} {σ : St} {H:Hp} {s:Shared} {A:Around} {E:Value->Shared->Prop} {Q:Value->Shared->Prop} {c:Value} {b:Bool}
inductive TyOf (K:PySem.W.Frag) (H:Hp):V->Value->Prop where
 | non:TyOf K H .non (.type "NoneType")
 | bl (x:Bool):TyOf K H (.bl x) (.type "bool")
 | int (i:Int):TyOf K H (.int i) (.type "int")
 | str (x:Str):TyOf K H (.str x) (.type "str")
 | flt (x:UInt64):TyOf K H (.flt x) (.type "float")
 | lst {a:Addr} {xs:List V} (e:H a=some (.lst xs)):TyOf K H (.ref a) (.type "list")
 | frz {a:Addr} {o:Obj} {xs:List V} (e:H a=some (.frz o (.lst xs))):TyOf K H (.ref a) (.type "list")
 | tup {a:Addr} {xs:List V} (e:H a=some (.tup xs)):TyOf K H (.ref a) (.type "tuple")
 | dK {a:Addr} {kvs:List (Key×V)} (e:H a=some (.dK kvs)):TyOf K H (.ref a) (.type "dict")
 | dT {a:Addr} {kvs:List (List Key×V)} (e:H a=some (.dT kvs)):TyOf K H (.ref a) (.type "dict")
 | ins {a C dx:Addr} {fs:List (Str×V)} (e:H a=some (.ins C dx fs)) (cl:Cls K C) (ha:PySem.W.findIn K (.ref C) "__class__" = some (some (.builtin "object.__class__")))
   (hn:PySem.W.specialIn K (.builtin "object.__class__") "__get__" = some (some (.builtin "getset_descriptor.__get__"))) (htk:PySem.W.takesIn K (.builtin "object.__class__")=some true)
   (hm:PySem.W.mroIn K C (.type "object")=some true):TyOf K H (.ref a) (.ref C)
theorem Fd {x:V} {u t:Value} (I:Inv X pins σ H s) (rx:RelV x u) (ty:TyOf X.K H x t) (e:PySem.W.kitOne X.K t c=some b) (h:∀ tk,Q (.bool b) { s with toks:=tk }) :
  wpAny (model X.prog X.w) A (call (.builtin "isinstance") [u,c]) Q E s:=by
 cases ty with
 | non=>cases (show u=Value.none from rx);exact PySem.W.kia_one PySem.W.kitx_none I.kIn True.intro e (fun z=>nomatch z) h
 | bl y=>cases (show u=Value.bool y from rx);exact PySem.W.kia_one PySem.W.kitx_bool I.kIn True.intro e (fun z=>nomatch z) h
 | int i=>obtain ⟨t,q⟩:=(show ∃ t,u=Value.int i t from rx);cases q;exact PySem.W.kia_one PySem.W.kitx_int I.kIn True.intro e (fun z=>nomatch z) h
 | str y=>obtain ⟨t,q⟩:=(show ∃ t,u=Value.str y t from rx);cases q;exact PySem.W.kia_one PySem.W.kitx_str I.kIn True.intro e (fun z=>nomatch z) h
 | flt y=>obtain ⟨t,q⟩:=(show ∃ t,u=Value.float y t from rx);cases q;exact PySem.W.kia_one PySem.W.kitx_float I.kIn True.intro e (fun z=>nomatch z) h
 | @lst a xs ea=>
  cases (show u=Value.ref a from rx)
  obtain ⟨_,_,n,_,h1⟩:=(show fP X.prog X.w H s.heap a (.lst xs) from I.hok a _ ea)
  exact PySem.W.kia_one PySem.W.kitx_list I.kIn ⟨_,h1,rfl⟩ e (fun z=>nomatch z) h
 | @frz a ob xs ea=>
  cases (show u=Value.ref a from rx)
  obtain ⟨_,_,_,n,_,h1⟩:=(show fP X.prog X.w H s.heap a (.frz ob (.lst xs)) from I.hok a _ ea)
  exact PySem.W.kia_one PySem.W.kitx_list I.kIn ⟨_,h1,rfl⟩ e (fun z=>nomatch z) h
 | @tup a xs ea=>
  cases (show u=Value.ref a from rx)
  obtain ⟨_,_,_,p⟩:=(show fP X.prog X.w H s.heap a (.tup xs) from I.hok a _ ea)
  obtain ⟨o,h1,h2,_⟩:=p
  exact PySem.W.kia_one PySem.W.kitx_tuple I.kIn ⟨o,h1,h2⟩ e (fun z=>nomatch z) h
 | @dK a kvs ea=>
  cases (show u=Value.ref a from rx)
  obtain ⟨_,_,vs,_,p⟩:=(show fP X.prog X.w H s.heap a (.dK kvs) from I.hok a _ ea)
  obtain ⟨o,es,ep,h1,h2,_⟩:=p
  exact PySem.W.kia_one PySem.W.kitx_dict I.kIn ⟨o,h1,h2.1⟩ e (fun z=>nomatch z) h
 | @dT a kvs ea=>
  cases (show u=Value.ref a from rx)
  obtain ⟨_,_,xs,_,o,es,ep,h1,h2,_⟩:=(show fP X.prog X.w H s.heap a (.dT kvs) from I.hok a _ ea)
  exact PySem.W.kia_one PySem.W.kitx_dict I.kIn ⟨o,h1,h2.1⟩ e (fun z=>nomatch z) h
 | @ins a C dx fs ea cl ha hn htk hm=>
  cases (show u=Value.ref a from rx)
  obtain ⟨mA,O,_⟩:=LK I.hok ea
  obtain ⟨od,J,_⟩:=O.look
  exact PySem.W.kia_one (PySem.W.kitx_own (cl.get _) cl.hd ha hn htk hm) I.kIn J e (fun z=>nomatch z) h
end
structure Room (k:Nat) (A:Around):Prop where
 hd:A.handled=none
 dp:A.depth+3*k+5<recursionLimit
 un:A.units+16*k+200<cLine
 gd:A.guards=some []
theorem Room.mono {j k:Nat} {A:Around} (r:Room k A) (h:j<=k):Room j A:=⟨r.hd,by have:=r.dp;omega,by have:=r.un;omega,r.gd⟩
theorem Room.deeper {k:Nat} {A:Around} (r:Room (k+1) A) (env:Env):Room k (A.deeper env):=
 ⟨r.hd,by have:=r.dp;show A.depth+1+3*k+5<_;omega,by have:=r.un;show A.units+3+16*k+200<_;omega,r.gd⟩
theorem Room.depth {k:Nat} {A:Around} (r:Room k A):A.depth<recursionLimit:=by have:=r.dp;omega
theorem Room.units {k:Nat} {A:Around} (r:Room k A):A.units+64<cLine:=by have:=r.un;omega
noncomputable def WM:TA:=fun _ H Q=>Q [] H
noncomputable def VF (ta:TE) (tr:TA):TA:=fun σ H Q=>ta σ H fun x H1=>tr σ H1 fun xs H2=>Q (x :: xs) H2
section
variable {X:Cx} {e:Expr} {es:List Expr} {te:TE} {t:TA} {pos:Pos}
theorem Bt:PA X [] WM:=fun _ _ _ _ H Q I h=>Calls.spliced_nil ⟨[],H,I,.nil,h⟩
theorem wZ (ha:PE X e te) (hr:PA X es t) (hs:starEach (e :: es) X.env=(false,eval e X.env) :: starEach es X.env:=by rfl):PA X (e :: es) (VF te t):=by
 intro pos pins s σ H Q I h
 rw [hs]
 show wpAny _ _ (spliced ((false,eval e X.env) :: backTo pos (starEach es X.env))) _ _ s
 refine Calls.spliced_cons (thn (ha pins s σ H _ I h) fun u s1 ⟨x,H1,I1,r1,q1⟩=>?_)
 exact thn (hr pos pins s1 σ H1 _ I1 q1) fun us s2 ⟨xs,H2,I2,r2,q2⟩=>⟨x :: xs,H2,I2,.cons r1 r2,q2⟩
noncomputable def WT (t:TA):TE:=fun σ H Q=>t σ H fun xs H1=>xs.length<=sizeLine ∧ ∀ p,H1 p=none->Q (.ref p) (upd H1 p (.tup xs))
noncomputable def WL (t:TA):TE:=fun σ H Q=>t σ H fun xs H1=>xs.length<=sizeLine ∧ ∀ p,H1 p=none->Q (.ref p) (upd H1 p (.lst xs))
theorem RV {x1} (h:PA X es t):PE X (.Tuple es x1 pos) (WT t):=by
 intro pins s σ H Q I hq
 refine wpAny_Tuple_spliced (thn (h pos pins s σ H _ I hq) fun us s1 ⟨xs,H1,I1,r,z,q⟩=>⟨by rw [← r.length];exact z,?_⟩)
 have hf:H1 s1.heap.objs.size=none:=I1.hok.fresh (Nat.le_refl _)
 refine ⟨.ref s1.heap.objs.size,upd H1 s1.heap.objs.size (.tup xs),I1.laid (t':=s1.toks) (fun b u e=>Heap.get?_push_of_some _ e) (Nat.le_refl _) ?_,rfl,q _ hf⟩
 exact ⟨z,us,r,⟨_,Heap.get?_push_size _ rfl,rfl,_,rfl⟩⟩
theorem RN (h:PA X es t):PE X (.List es pos) (WL t):=by
 intro pins s σ H Q I hq
 refine wpAny_List_spliced (thn (h pos pins s σ H _ I hq) fun us s1 ⟨xs,H1,I1,r,z,q⟩=>⟨by rw [← r.length];exact z,?_⟩)
 have hf:H1 s1.heap.objs.size=none:=I1.hok.fresh (Nat.le_refl _)
 refine ⟨.ref s1.heap.objs.size,upd H1 s1.heap.objs.size (.lst xs),I1.laid (t':=s1.toks) (fun b u e=>Heap.get?_push_of_some _ e) (Nat.le_refl _) ?_,rfl,q _ hf⟩
 exact ⟨z,us,0,r,Heap.get?_push_size _ rfl⟩
end
noncomputable abbrev Sp:=List V->Hp->VK->XK->Prop
noncomputable abbrev CXT:=List Env->Hp->Shared->XK->Value->Shared->Prop
structure Env0 (P:Program) (w:World) (K:PySem.W.Frag) (mg:Str->Option Value) (base:Heap) (A:Around) (outer:List Env) (s:Shared) (H:Hp):Prop where
 frames:A.frames=some outer
 mod:Mod K mg base
 bs:∀ b o,base.get? b=some o->s.heap.get? b=some o∧H b=none
 bsz:base.objs.size<=s.heap.objs.size
 funs:s.heap.FunFrames base outer
 frf:∀ b∈frs outer,H b=none
 hok:HOk P w H s.heap
 bare:AllBare s.gens
noncomputable def CE (outer:List Env) (P:Program) (w:World) (H:Hp) (s:Shared) (Q:VK) (u:Value) (s':Shared):Prop:=
 ∃ v H',s'.os=s.os∧AllBare s'.gens∧Un (frs outer) [] H H' s.heap s'.heap∧HOk P w H' s'.heap∧RelV v u∧Q v H'
noncomputable def CR (CX:CXT) (outer:List Env) (P:Program) (w:World) (H:Hp) (s:Shared) (Q:VK) (E:XK) (r:Result) (s':Shared):Prop:=
 match r with
 | .ok (.ret u)=>CE outer P w H s Q u s'
 | .ok _=>False
 | .error e=>CX outer H s E e s'
structure FnOk (P:Program) (w:World) (K:PySem.W.Frag) (mg:Str->Option Value) (base:Heap) (CX:CXT) (k:Nat) (f:Addr) (fd:FuncData) (ps:List Str) (sp:Sp):Prop where
 len:∀ vs H Q E,sp vs H Q E->vs.length=ps.length
 run:∀ (A:Around) (outer:List Env) (s:Shared) (H:Hp) (args:Args) (us:List Value) (vs:List V) (Q:VK) (E:XK),Room k A->Env0 P w K mg base A outer s H->BindsTo s fd args (ps.zip us)->Vals vs us->sp vs H Q E ->
  codeAny (model P w) A (.call (.ref f) args) (CR CX outer P w H s Q E) s
section
variable {X:Cx} {pins:List (Addr×Obj)} {σ : St} {H:Hp} {s s':Shared}
theorem Inv.env0 (I:Inv X pins σ H s):Env0 X.prog X.w X.K X.mg X.base X.A X.stack s H:=
 ⟨I.ok.frames,I.ok.mod,I.bs,Nat.le_trans I.ok.bsz I.sz,I.stack,I.stkFree,I.hok,I.bare⟩
theorem Inv.after {Q:VK} {u:Value} (I:Inv X pins σ H s) (h:CE X.stack X.prog X.w H s Q u s'):EP X pins σ Q u s':=by
 obtain ⟨v,H',os,bare,un,hok,r,q⟩:=h
 obtain ⟨hh,g,d,t,os'⟩:=s'
 obtain rfl:os'=s.os:=os
 exact ⟨v,H',I.call (h':=hh) (g':=g) (d':=d) (t':=t) (ch:=[]) un hok bare (fun b z=>absurd z (by simp)),r,q⟩
end
noncomputable def VD (sp:Sp) (dvs:List V) (E:XK) (t:TA):TE:=fun σ H Q=>t σ H fun vs H1=>sp (vs++dvs) H1 Q E
noncomputable def Binds (K:PySem.W.Frag) (fd:FuncData) (ps:List Str) (ds:List Value):Prop:=
 ∀ (s:Shared) (us:List Value),K.In s.heap->(us++ds).length=ps.length->BindsTo s fd ⟨us,[]⟩ (ps.zip (us++ds))
theorem Binds.all {K:PySem.W.Frag} {fd:FuncData} {ps:List Str} (h:∀ us:List Value,us.length=ps.length->bindArgs fd ⟨us,[]⟩=pure (ps.zip us)):Binds K fd ps []:=fun s us _ hl=>by
 rw [List.append_nil] at hl ⊢
 exact .of_eq (h us hl)
noncomputable def rM (CX:CXT) (X:Cx) (E:XK):Prop:=∀ (pins:List (Addr×Obj)) (σ : St) (H:Hp) (s:Shared) (e:Value) (s':Shared),Inv X pins σ H s->CX X.stack H s E e s'->X.xe e s'
section
variable {X:Cx} {CX:CXT} {k:Nat} {f C:Addr} {fd:FuncData} {ps:List Str} {sp:Sp} {dvs:List V} {ds:List Value} {E:XK} {x m:Str} {p pos apos:Pos} {e o:Expr} {es:List Expr} {ta:TE} {t:TA}
theorem Jr {pins:List (Addr×Obj)} {σ : St} {H:Hp} {s:Shared} {Q:VK} {us:List Value} {vs:List V} (F:FnOk X.prog X.w X.K X.mg X.base CX k f fd ps sp) (hr:Room k X.A) (hb:Binds X.K fd ps ds) (hd:Vals dvs ds) (hx:rM CX X E)
  (I:Inv X pins σ H s) (r:Vals vs us) (h:sp (vs++dvs) H Q E):wpAny (model X.prog X.w) X.A (call (.ref f) us) (EP X pins σ Q) X.xe s:=by
 have r2:Vals (vs++dvs) (us++ds):=r.append hd
 have hl:(us++ds).length=ps.length:=by rw [← r2.length];exact F.len _ _ _ _ h
 refine wpAny_call (codeAny_mono (F.run X.A X.stack s H ⟨us,[]⟩ (us++ds) (vs++dvs) Q E hr I.env0 (hb s us I.kIn hl) r2 h) fun r s' hq=>?_)
 cases r with
 | error e=>exact hx pins σ H s e s' I hq
 | ok fl=>
  cases fl with
  | ret u=>exact I.after hq
  | next=>exact False.elim hq
  | brk=>exact False.elim hq
  | cont=>exact False.elim hq
theorem xf (F:FnOk X.prog X.w X.K X.mg X.base CX k f fd ps sp) (hr:Room k X.A) (hg:Gl X x) (hm:X.mg x=some (.ref f)) (hk:PySem.W.keepIn X.K (.ref f)=true) (hb:Binds X.K fd ps ds) (hd:Vals dvs ds) (hx:rM CX X E)
  (ha:PA X (e :: es) t) (hdb:(x==("__debug__" : Str))=false:=by decide) (he:starEach (e :: es) X.env=(false,eval e X.env) :: starEach es X.env:=by rfl) (hpl:(backTo pos (starEach es X.env)).any (·.1)=false:=by rfl) :
  PE X (.Call (.Name x p) (e :: es) [] pos) (VD sp dvs E t):=by
 intro pins s σ H Q I h
 refine wpAny_Call_Name_kw (CQ I hg hm ?_ hdb)
 refine PySem.W.callWith_K (h₀:=X.base) I.ok.mod.kin hk (thn (ha pos pins s σ H _ I h) fun us s1 ⟨vs,H1,I1,r,q⟩=>⟨I1.kIn,?_⟩) he hpl
 exact Jr F hr hb hd hx I1 r q
structure Mk (K:PySem.W.Frag) (C f:Addr):Prop where
 makes:PySem.W.makesIn K C=true
 init:PySem.W.findIn K (.ref C) "__init__" = some (some (.ref f))
 fn:PySem.W.isFn K (.ref f)=true
 kp:PySem.W.keepIn K (.ref C)=true
end
section
variable {X:Cx} {CX:CXT} {k:Nat} {f C:Addr} {fd:FuncData} {ps ks:List Str} {sp:Sp} {E:XK} {x m:Str} {p pos apos kpos:Pos} {e o:Expr} {es:List Expr} {kws:List Keyword} {te ta:TE} {t tk:TA} {nm:Option Str}
structure KBinds (K:PySem.W.Frag) (fd:FuncData) (ps ks:List Str) (g:List Value->List Value->List Value) (gV:List V->List V->List V):Prop where
 to:∀ (s:Shared) (us ws:List Value),K.In s.heap->(g us ws).length=ps.length->BindsTo s fd ⟨us,ks.zip ws⟩ (ps.zip (g us ws))
 rel:∀ {vs:List V} {us:List Value} {zs:List V} {ws:List Value},Vals vs us->Vals zs ws->Vals (gV vs zs) (g us ws)
variable {g:List Value->List Value->List Value} {gV:List V->List V->List V}
end
structure FnScope (N P:List Str) (sc:Scope):Prop where
 kind:sc.kind = .function
 co:sc.isCoroutine=false
 gen:sc.isGenerator=false
 nd:N.Nodup
 pre:N.take P.length=P
 par:∀ x∈P,sc.names.lookup x=some .local∨sc.names.lookup x=some .cell
 nofree:∀ y∈sc.names,y.2 ≠ .free
theorem uT {kindOf:Str->Option NameKind} {x:Str}:∀ {binds:List (Str×Value)} {m:Str->Option Value},(∀ v,(x,v) ∉ binds)->bindL kindOf binds m x=m x
 | [],_,_=>rfl
 | (n,v) :: r,m,h=>by
  unfold bindL
  rw [uT fun w hw=>h w (List.mem_cons_of_mem _ hw)]
  split
  ·have:x≠n:=by rintro rfl;exact h v List.mem_cons_self
   simp [this]
  ·rfl
theorem uQ {kindOf:Str->Option NameKind} {x:Str}:∀ {binds:List (Str×Value)} {m:Str->Option Value},(∀ v,(x,v) ∉ binds)->bindC kindOf binds m x=m x
 | [],_,_=>rfl
 | (n,v) :: r,m,h=>by
  unfold bindC
  rw [uQ fun w hw=>h w (List.mem_cons_of_mem _ hw)]
  split
  ·rfl
  ·have:x≠n:=by rintro rfl;exact h v List.mem_cons_self
   simp [this]
theorem uR {kindOf:Str->Option NameKind} {x:Str} {v:Value}:∀ {P:List Str} {vs:List Value} {i:Nat} {m:Str->Option Value},P.Nodup->P[i]? = some x->vs[i]? = some v->kindOf x=some .local ->
  bindL kindOf (P.zip vs) m x=some v
 | [],_,_,_,_,h,_,_=>by simp at h
 | _ :: _,[],_,_,_,_,h,_=>by simp at h
 | p :: P,w :: vs,0,m,nd,h1,h2,hk=>by
  simp at h1 h2;subst h1;subst h2
  show bindL kindOf ((p,w) :: P.zip vs) m p=_
  unfold bindL
  rw [uT fun v hv=>(List.nodup_cons.mp nd).1 (List.of_mem_zip hv).1,if_pos hk]
  simp
 | p :: P,w :: vs,i+1,m,nd,h1,h2,hk=>by
  show bindL kindOf ((p,w) :: P.zip vs) m x=_
  unfold bindL
  exact uR (i:=i) (List.nodup_cons.mp nd).2 (by simpa using h1) (by simpa using h2) hk
theorem uP {kindOf:Str->Option NameKind} {x:Str} {v:Value}:∀ {P:List Str} {vs:List Value} {i:Nat} {m:Str->Option Value},P.Nodup->P[i]? = some x->vs[i]? = some v->kindOf x≠some .local ->
  bindC kindOf (P.zip vs) m x=some v
 | [],_,_,_,_,h,_,_=>by simp at h
 | _ :: _,[],_,_,_,_,h,_=>by simp at h
 | p :: P,w :: vs,0,m,nd,h1,h2,hk=>by
  simp at h1 h2;subst h1;subst h2
  show bindC kindOf ((p,w) :: P.zip vs) m p=_
  unfold bindC
  rw [uQ fun v hv=>(List.nodup_cons.mp nd).1 (List.of_mem_zip hv).1,if_neg hk]
  simp
 | p :: P,w :: vs,i+1,m,nd,h1,h2,hk=>by
  show bindC kindOf ((p,w) :: P.zip vs) m x=_
  unfold bindC
  exact uP (i:=i) (List.nodup_cons.mp nd).2 (by simpa using h1) (by simpa using h2) hk
noncomputable def start (N:List Str) (vs:List V):St:=vs.map some++List.replicate (N.length - vs.length) none
noncomputable def qO (CX:CXT) (P:Program) (w:World) (K:PySem.W.Frag) (mg:Str->Option Value) (base:Heap) (N:List Str) (qual:Str) (scope:Scope) (f:Addr) (cd:Value) (A:Around) (outer:List Env) (s:Shared) (H:Hp) (E:XK):Cx where
 prog:=P
 w:=w
 K:=K
 mg:=mg
 base:=base
 A:=A.deeper (envOfC qual scope s.heap.objs.size f cd)
 N:=N
 s₀:=s
 H₀:=H
 env:=envOfC qual scope s.heap.objs.size f cd
 outer:=outer
 stack:=envOfC qual scope s.heap.objs.size f cd :: outer
 ex:=[]
 calm:=true
 fn:=fun _=>true
 pn:=[]
 xe:=fun e s'=>wpAny (model P w) (A.deeper (envOfC qual scope s.heap.objs.size f cd)) (leaving (envOfC qual scope s.heap.objs.size f cd) e) (fun _ s''=>CX outer H s E e s'') (fun e' s''=>CX outer H s E e' s'') s'
theorem yj {sc:Scope} {n:Nat} {x:Str} (h:sc.names.lookup x=some .cell):∃ c,(cellsFrom n sc.names []).lookup x=some c:=by
 have q:=PySem.W.cellsFrom_some sc.names n [] (.inl h)
 exact Option.isSome_iff_exists.mp q
theorem Fb {CX:CXT} {P:Program} {w:World} {K:PySem.W.Frag} {mg:Str->Option Value} {base:Heap} {N ps:List Str} {qual:Str} {scope:Scope} {f:Addr} {cd:Value} {A:Around} {outer:List Env} {s s1:Shared} {H:Hp} {E:XK} {us:List Value} {vs:List V}
  (S:FnScope N ps scope) (hd:A.handled=none) (e0:Env0 P w K mg base A outer s H) (hl:vs.length=ps.length) (r:Vals vs us)
  (x:InCallC s s.heap.objs.size (bindL (envOfC qual scope s.heap.objs.size f cd).kindOf (ps.zip us) fun _=>none) (cellsFrom (s.heap.objs.size+1) scope.names []) (bindC (envOfC qual scope s.heap.objs.size f cd).kindOf (ps.zip us) fun _=>none) s1) :
  Inv (qO CX P w K mg base N qual scope f cd A outer s H E) [] (start N vs) H s1:=by
 have hpl:ps.length<=N.length:=by have:=congrArg List.length S.pre;rw [List.length_take] at this;omega
 obtain ⟨h1,tk,rfl,hk⟩:=x.done
 have noA:∀ b:Addr,b ∉ (qO CX P w K mg base N qual scope f cd A outer s H E).ex:=fun b z=>absurd (show b∈([]:List Addr) from z) (by simp)
 refine ⟨⟨e0.mod,S.kind,rfl,rfl,Nat.le_refl _,fun y z c h1 h2=>?_,fun y hy=>?_,fun y c _ h=>?_,fun _=>hd,Around.frames_deeper e0.frames,.inr ⟨rfl,rfl⟩,fun b z=>absurd z (noA b),e0.bs,e0.bsz,fun b _ _=>noA b,fun b z=>absurd z (noA b),e0.funs,e0.frf⟩,
  rfl,e0.bare,Un.kept hk,⟨_,x.toInCall.ns,fun i y v h1 h2 h3=>?_⟩,fun y c h=>⟨_,x.cell y c h⟩,e0.hok.fresh (Nat.le_refl _),fun y c h=>?_,fun p hp=>absurd (show p∈([]:List (Addr×Obj)) from hp) (by simp),e0.hok.kept hk,?_⟩
 ·exact name_of_addr x.apart (PySem.mem_of_lookup h1) (PySem.mem_of_lookup h2)
 ·have hy:scope.names.lookup y=some .cell∨scope.names.lookup y=some .free:=hy
  rcases hy with hy | hy
  ·exact yj hy
  ·exact absurd rfl (S.nofree _ (PySem.mem_of_lookup hy))
 ·exact Nat.le_of_lt (x.above y c (PySem.mem_of_lookup h))
 ·have hi:i<vs.length:=by
   unfold start at h2
   by_cases hi:i<vs.length
   ·exact hi
   ·rw [List.getElem?_append_right (by simpa using hi)] at h2
    rw [List.getElem?_replicate] at h2
    split at h2 <;> cases h2
  have ha:vs[i]? = some v:=by
   unfold start at h2
   rw [List.getElem?_append_left (by simpa using hi),List.getElem?_map] at h2
   cases e:vs[i]? with
   | none=>rw [e] at h2;cases h2
   | some a=>rw [e] at h2;cases h2;rfl
  obtain ⟨u,hu,rv⟩:=r.get ha
  have hp:ps[i]? = some y:=by
   rw [← S.pre,List.getElem?_take_of_lt (by omega)];exact h1
  have ndP:ps.Nodup:=by rw [← S.pre];exact S.nd.sublist (List.take_sublist _ _)
  refine ⟨u,rv,?_⟩
  rcases S.par y (List.mem_of_getElem? hp) with k | k
  ·exact .inl ⟨k,uR ndP hp hu k⟩
  ·obtain ⟨c,e⟩:=yj (n:=s.heap.objs.size+1) k
   refine .inr ⟨.inl k,c,e,?_⟩
   have q:=x.cell y c e
   rw [uP ndP hp hu (by show scope.names.lookup y≠_;rw [k];decide)] at q
   exact q
 ·exact e0.hok.fresh (Nat.le_of_lt (x.above y c (PySem.mem_of_lookup h)))
 ·unfold start
  show _=N.length
  rw [List.length_append,List.length_map,List.length_replicate]
  omega
theorem Pj {CX:CXT} {P:Program} {w:World} {K:PySem.W.Frag} {mg:Str->Option Value} {base:Heap} {k:Nat} {f:Addr} {name qual:Str} {params:Arguments} {body:List Stmt} {scope:Scope} {dV kV doc pm cdv ct oc:Value} {an od:Option Addr}
  {osl:Array (Option Value)} {N ps:List Str} {sp:Sp} (lk:K.lookup f=some ⟨oc,od,.func (PySem.W.fnOf name qual params body scope dV kV doc pm an cdv ct),osl⟩) (hcd:PySem.W.codeIn K cdv qual=true) (S:FnScope N ps scope)
  (len:∀ vs H Q E,sp vs H Q E->vs.length=ps.length)
  (hbody:∀ (A:Around) (outer:List Env) (s:Shared) (H:Hp) (vs:List V) (Q:VK) (E:XK),Room k (A.deeper (envOfC qual scope s.heap.objs.size f cdv))->sp vs H Q E ->
   ∃ t,PSs (qO CX P w K mg base N qual scope f cdv A outer s H E) body t∧t { nx:=fun _ H'=>Q .non H',rt:=Q } (start N vs) H) :
  FnOk P w K mg base CX (k+1) f (PySem.W.fnOf name qual params body scope dV kV doc pm an cdv ct) ps sp:=by
 refine ⟨len,fun A outer s H args us vs Q E hr e0 hb r hsp=>?_⟩
 have hl:=len _ _ _ _ hsp
 have KX:K.In s.heap:=e0.mod.kin.keeps fun b o e=>(e0.bs b o e).1
 have lim:s.heap.NoLimit:=e0.mod.nolimit.keeps fun b o e=>(e0.bs b o e).1
 have hkind:∀ y∈ps.zip us,scope.names.lookup y.1=some .local∨(scope.names.lookup y.1=some .cell∧((cellsFrom (s.heap.objs.size+1) scope.names []).lookup y.1).isSome=true):=fun hh5 hy=>by
  obtain ⟨n,v⟩:=hh5
  rcases S.par n (List.of_mem_zip hy).1 with q | q
  ·exact .inl q
  ·exact .inr ⟨q,PySem.W.cellsFrom_some _ _ _ (.inl q)⟩
 refine codeAny_call_function hr.depth (KX _ _ lk) rfl S.co S.gen rfl (PySem.W.codeRec_of KX hcd) (hb _ _ _ _ ?_)
 refine wpAny_newFunctionEnv_cells S.kind hkind fun env he s1 x=>?_
 subst he
 refine ⟨lim.keeps x.toInCall.keep,codeAny_func ?_⟩
 obtain ⟨t,ht,hq⟩:=hbody A outer s H vs Q E (hr.deeper _) hsp
 have I:Inv (qO CX P w K mg base N qual scope f cdv A outer s H E) [] (start N vs) H s1:=Fb S hr.hd e0 hl r x
 refine wpAny_mono (ht [] s1 (start N vs) H _ I hq) (fun fl s' hs=>?_) fun e s' hs=>hs
 have fin:∀ {σ':St} {H':Hp} {v:V} {u:Value},Inv (qO CX P w K mg base N qual scope f cdv A outer s H E) [] σ' H' s'->RelV v u->Q v H'->CE outer P w H s Q u s':=
  fun {σ' H' v u} J rv q=>⟨v,H',J.os,J.bare,J.base,J.hok,rv,q⟩
 cases fl with
 | ret u=>
  obtain ⟨v,σ',H',J,rv,q⟩:=hs
  exact fin J rv q
 | next=>
  obtain ⟨σ',H',J,q⟩:=hs
  exact fin (v:=V.non) (u:=Value.none) J rfl q
 | brk=>
  obtain ⟨_,_,_,q⟩:=hs
  exact False.elim q
 | cont=>
  obtain ⟨_,_,_,q⟩:=hs
  exact False.elim q
section
variable {X:Cx} {x:Str} {p pos:Pos} {e:Expr} {es:List Expr} {t:TA} {id T:String} {r:List V->Hp->VK->Prop}
noncomputable def tCB (r:List V->Hp->VK->Prop) (t:TA):TE:=fun σ H Q=>t σ H fun vs H1=>r vs H1 Q
theorem Iz (hc:gO X (.builtin id) r) (hg:Gl X x) (hm:X.mg x=none) (hv:bootBuiltins x=some (.builtin id)) (ha:PA X (e :: es) t) (hn:x ≠ "__name__":=by decide) (hdb:(x==("__debug__" : Str))=false:=by decide)
  (he:starEach (e :: es) X.env=(false,eval e X.env) :: starEach es X.env:=by rfl) (hpl:(backTo pos (starEach es X.env)).any (·.1)=false:=by rfl):PE X (.Call (.Name x p) (e :: es) [] pos) (tCB r t):=by
 intro pins s σ H Q I h
 refine wpAny_Call_Name_kw (lN I hg hm hv ?_ hn hdb)
 exact PyProof.Rows.callWith_builtin1 (thn (ha pos pins s σ H _ I h) fun us s1 ⟨vs,H1,I1,r1,q1⟩=>hc pins s1 σ H1 vs us Q I1 r1 q1) he hpl
theorem FN (hc:gO X (.type T) r) (hg:Gl X x) (hm:X.mg x=none) (hv:bootBuiltins x=some (.type T)) (ha:PA X (e :: es) t) (hn:x ≠ "__name__":=by decide) (hdb:(x==("__debug__" : Str))=false:=by decide)
  (he:starEach (e :: es) X.env=(false,eval e X.env) :: starEach es X.env:=by rfl) (hpl:(backTo pos (starEach es X.env)).any (·.1)=false:=by rfl):PE X (.Call (.Name x p) (e :: es) [] pos) (tCB r t):=by
 intro pins s σ H Q I h
 refine wpAny_Call_Name_kw (lN I hg hm hv ?_ hn hdb)
 exact PyProof.Rows.callWith_type1 (thn (ha pos pins s σ H _ I h) fun us s1 ⟨vs,H1,I1,r1,q1⟩=>hc pins s1 σ H1 vs us Q I1 r1 q1) he hpl
end
end L2
namespace HT
open PySem PyProof.Rows
section
open PySem.SeqAt
open PySem.AutoSeq1 (wpAny_loadPart')
open PySem.MeetsSeq PySem.MeetsSeq2 PySem.MeetsSeq3
end
section
variable {prog:Program} {w:World} {A:Around} {E:Value->Shared->Prop} {s:Shared}
theorem Ky {t b:Addr} {vs ws:List Value} {Q:Value->Shared->Prop} (ht:IsTup s.heap t vs.toArray) (hb:IsTup s.heap b ws.toArray) (hv:vs≠[])
  (h1:ws=[]->Q (.ref t) s) (h2:ws≠[]->Q (.ref s.heap.objs.size) { s with heap:=s.heap.push { cls:=.type "tuple",data:=.seq (vs++ws).toArray } })
  (hsz:vs.length+ws.length<=sizeLine):wpAny (model prog w) A (binaryOp .Add (.ref t) (.ref b)) Q E s:=by
 obtain ⟨⟨cls,dd,data,sl⟩,ho,hc,n,hd⟩:=id ht
 obtain ⟨⟨cls2,dd2,data2,sl2⟩,ho2,hc2,n2,hd2⟩:=id hb
 simp only at hc hd hc2 hd2
 subst hc hd hc2 hd2
 have e:vs.toArray++ws.toArray=(vs++ws).toArray:=by simp
 by_cases hw:ws=[]
 ·exact concat_meets ⟨_,ho,rfl⟩ ⟨_,ho2,rfl⟩ noFill_tuple_add seq_tuple_add PySem.F.slot_tuple_add PySem.F.entry_tuple_add (PySem.F.args_tuple_add_2 _ _)
   (tuple_addW1 t b vs.toArray ws.toArray n n2 dd dd2 sl sl2 (by simpa using hv) (by simp [hw])) ⟨ho,ho2,h1 hw⟩
 ·refine concat_meets ⟨_,ho,rfl⟩ ⟨_,ho2,rfl⟩ noFill_tuple_add seq_tuple_add PySem.F.slot_tuple_add PySem.F.entry_tuple_add (PySem.F.args_tuple_add_2 _ _)
   (tuple_addW2 t b vs.toArray ws.toArray n n2 dd dd2 sl sl2 (by simpa using hv) (by simpa using hw) (by rw [List.size_toArray,List.size_toArray];exact hsz)) ⟨ho,ho2,?_⟩
  rw [e]
  exact h2 hw
noncomputable def sIx (n d:Nat):Option Int->Nat
 | none=>d
 | some v=>if v<0 then (v+(n:Int)).toNat else min v.toNat n
theorem zR (n d:Nat):sIx n d none=d:=rfl
theorem DN (n d k:Nat):sIx n d (some (k:Int))=min k n:=by
 show (if (k:Int)<0 then ((k:Int)+(n:Int)).toNat else min (k:Int).toNat n)=min k n
 rw [if_neg (by omega),Int.toNat_natCast]
theorem SJ (n d:Nat) (hd:d<=n) (o:Option Int):sIx n d o<=n:=by
 cases o with
 | none=>exact hd
 | some v=>
  show (if v<0 then (v+(n:Int)).toNat else min v.toNat n)<=n
  by_cases hv:v<0
  ·rw [if_pos hv];omega
  ·rw [if_neg hv];exact Nat.min_le_right _ _
theorem Ce (v:Int) (n d:Nat):(if v<0 then max (v+(n:Int)) 0 else min v (n:Int))=((sIx n d (some v):Nat):Int):=by
 show (if v<0 then max (v+(n:Int)) 0 else min v (n:Int))=(((if v<0 then (v+(n:Int)).toNat else min v.toNat n):Nat):Int)
 by_cases hv:v<0
 ·simp only [if_pos hv];omega
 ·simp only [if_neg hv];omega
theorem Ak (lo hi:Option Int) (n:Nat):Builtin.Slice.sliceAdjust lo hi 1 (n:Int)=(((sIx n 0 lo:Nat):Int),((sIx n n hi:Nat):Int)):=by
 have h1:¬ ((1:Int)<0):=by omega
 unfold Builtin.Slice.sliceAdjust
 simp only [h1,if_false]
 refine Prod.ext ?_ ?_
 ·cases lo with
  | none=>rfl
  | some v=>exact Ce v n 0
 ·cases hi with
  | none=>rfl
  | some v=>exact Ce v n n
theorem Bw (i j:Nat):Builtin.Slice.slicePlaces (i:Int) (j:Int) 1=j - i:=by
 unfold Builtin.Slice.slicePlaces
 have h1:(1:Int)>0:=by omega
 simp only [h1,if_true,Int.ediv_one]
 split <;> omega
theorem tW {v:Value} {o:Option Int} {Q:Option Int->Shared->Prop} (p:IsPart v o) (h:Q o s):wpAny (model prog w) A (Builtin.Slice.slicePartIndex v) Q E s:=by
 cases p with
 | none=>exact slicePart_none h
 | int i t=>exact slicePart_int h
theorem qy {sl:Addr} {vl vu:Value} {lo hi:Option Int} {n:Nat} {Q:Int×Int×Nat->Shared->Prop} (hs:s.heap.IsSliceOf sl vl vu .none) (pl:IsPart vl lo) (pu:IsPart vu hi)
  (h:Q (((sIx n 0 lo:Nat):Int),1,sIx n n hi - sIx n 0 lo) s):wpAny (model prog w) A (Builtin.Slice.sliceApplied (.ref sl) (pure (n:Int))) Q E s:=by
 obtain ⟨os,hos,hcs,hds⟩:=id hs
 unfold Builtin.Slice.sliceApplied Builtin.Slice.sliceFields
 refine wpAny_bind (wpAny_bind (wpAny_field hos hds (x:=vl) rfl (wpAny_bind (wpAny_field hos hds (x:=vu) rfl (wpAny_bind (wpAny_field hos hds (x:=.none) rfl (wpAny_pure ?_)))))))
 refine wpAny_bind (slicePart_none ?_)
 show wpAny _ _ (if ((1:Int)==0)=true then _ else _) _ _ s
 rw [if_neg (by decide)]
 refine wpAny_bind (tW pl (wpAny_bind (tW pu (wpAny_bind (wpAny_pure ?_)))))
 show wpAny _ _ (match Builtin.Slice.sliceAdjust lo hi 1 (n:Int) with | (lo,hi)=>pure (lo,(1:Int),Builtin.Slice.slicePlaces lo hi 1)) _ _ s
 rw [Ak lo hi n]
 show wpAny _ _ (pure (((sIx n 0 lo:Nat):Int),(1:Int),Builtin.Slice.slicePlaces ((sIx n 0 lo:Nat):Int) ((sIx n n hi:Nat):Int) 1)) _ _ s
 rw [Bw]
 exact wpAny_pure h
theorem Jc (xs:Array Value) (i k:Nat):((List.range k).filterMap fun (m:Nat)=>xs[((i:Int)+(m:Int)*1).toNat]?).toArray=((xs.toList.drop i).take k).toArray:=by
 have e:(fun (m:Nat)=>xs[((i:Int)+(m:Int)*1).toNat]?)=fun m=>xs[i+m]?:=by
  funext m
  have:((i:Int)+(m:Int)*1).toNat=i+m:=by omega
  rw [this]
 rw [e]
 have:=pick_run xs i k
 rw [List.filterMap_map] at this
 have e2:((fun x=>xs[x]?) ∘ fun x=>i+x)=fun m=>xs[i+m]?:=rfl
 rw [e2] at this
 rw [this]
theorem oX {t sl:Addr} {items:Array Value} {vl vu:Value} {lo hi:Option Int} {Q:Value->Shared->Prop} (ht:IsTup s.heap t items) (hs:s.heap.IsSliceOf sl vl vu .none) (pl:IsPart vl lo) (pu:IsPart vu hi)
  (hw:¬ (sIx items.size 0 lo=0∧sIx items.size items.size hi=items.size))
  (h:Q (.ref s.heap.objs.size) { s with heap:=s.heap.push { cls:=.type "tuple",data:=.seq ((items.toList.drop (sIx items.size 0 lo)).take (sIx items.size items.size hi - sIx items.size 0 lo)).toArray } })
  (hsz:items.size<=sizeLine):wpAny (model prog w) A (getItem (.ref t) (.ref sl)) Q E s:=by
 have htake:sizeOk (.seq ((items.toList.drop (sIx items.size 0 lo)).take (sIx items.size items.size hi - sIx items.size 0 lo)).toArray):=by
  show ((items.toList.drop (sIx items.size 0 lo)).take (sIx items.size items.size hi - sIx items.size 0 lo)).toArray.size<=sizeLine
  rw [List.size_toArray,List.length_take,List.length_drop,Array.length_toList]
  omega
 have hj:sIx items.size items.size hi<=items.size:=SJ _ _ (Nat.le_refl _) hi
 obtain ⟨os,hos,hcs,hds⟩:=id hs
 have hTs:s.TypeIs (.ref sl) "slice":=⟨os,hos,hcs⟩
 unfold getItem
 try with_reducible refine wpAny_holding ?_
 first | refine wpAny_bind (wpAny_pure ?_) | skip
 refine wpAny_bind (wpAny_sequenceKey ht.typeIs (by decide) ?_)
 refine wpAny_bind (wpAny_callSpecial?_slot (name:=Str.ofString "__getitem__") ht.typeIs PyProof.Rows.slot_tuple_getitem
  (wpAny_call_entry PyProof.Rows.slot_tuple_getitem ht.typeIs entry_tuple_getitem ?_ (args_tuple_getitem _ _)))
 show wpAny _ _ (Builtin.Tuple.tupleItemsOf (.ref t) >>= _) _ _ s
 refine wpAny_bind (tupleItemsOf_ ht ?_)
 refine wpAny_bind (wpAny_typeOf hTs ?_)
 rw [if_pos (by decide)]
 refine wpAny_bind (qy hs pl pu ?_)
 have hno:¬ ((((sIx items.size 0 lo:Nat):Int)==0&&(1:Int)==1&&(sIx items.size items.size hi - sIx items.size 0 lo)==items.size)=true):=by
  intro q
  rw [Bool.and_eq_true,Bool.and_eq_true] at q
  have q1:((sIx items.size 0 lo:Nat):Int)=0:=eq_of_beq q.1.1
  have q2:sIx items.size items.size hi - sIx items.size 0 lo=items.size:=eq_of_beq q.2
  exact hw ⟨by omega,by omega⟩
 show wpAny _ _ (if (((sIx items.size 0 lo:Nat):Int)==0&&(1:Int)==1&&(sIx items.size items.size hi - sIx items.size 0 lo)==items.size)=true then _ else _) _ _ s
 rw [if_neg hno,Jc]
 first
  | exact wpAny_bind (m:=Builtin.Tuple.tupleExact _) (wpAny_newObj_type (wpAny_pure ⟨_,rfl,wpAny_pure h⟩) htake)
  | exact wpAny_bind (m:=Builtin.Tuple.tupleExact _) (wpAny_newObj_type (wpAny_bind (wpAny_pure (wpAny_pure ⟨_,rfl,wpAny_pure h⟩))) htake)
  | exact wpAny_bind (wpAny_bind (m:=Builtin.Tuple.tupleExact _) (wpAny_newObj_type (wpAny_pure (wpAny_pure ⟨_,rfl,wpAny_pure h⟩)) htake))
  | exact wpAny_bind (wpAny_bind (m:=Builtin.Tuple.tupleExact _) (wpAny_newObj_type (wpAny_pure ⟨_,rfl,wpAny_pure h⟩) htake))
end
end HT
namespace L2
open PySem PySem.Spec PyProof.Rows
noncomputable abbrev TO:=St->Hp->(Option Int->Hp->Prop)->Prop
noncomputable def PO (X:Cx) (e:Option Expr) (t:TO):Prop:=
 ∀ (pins:List (Addr×Obj)) (s:Shared) (σ : St) (H:Hp) (Q:Option Int->Hp->Prop),Inv X pins σ H s->t σ H Q ->
  wpAny (model X.prog X.w) X.A (evalPart e X.env) (fun u s'=>∃ o H',Inv X pins σ H' s'∧IsPart u o∧Q o H') X.xe s
noncomputable def Om:TO:=fun _ H Q=>Q none H
noncomputable def VL (t:TE):TO:=fun σ H Q=>t σ H fun x H1=>∃ i,x = .int i∧Q (some i) H1
theorem intsAre_of {ns:List Int}:∀ {us:List Value},Vals (ns.map V.int) us->IntsAre us ns:=by
 induction ns with
 | nil=>intro us r;rw [List.map_nil] at r;cases r;exact .nil
 | cons n ns ih=>
  intro us r
  rw [List.map_cons] at r
  cases r with
  | cons r1 r2=>
   obtain ⟨t,e⟩:=r1
   subst e
   exact .cons n t (ih r2)
section
variable {X:Cx} {e:Expr} {te:TE} {lo hi:Option Expr} {tl th:TO} {pos p2:Pos}
theorem Dr:PO X none Om:=by
 intro pins s σ H Q I h
 rw [evalPart_none]
 exact wpAny_pure ⟨none,H,I,.none,h⟩
theorem Ds (h:PE X e te):PO X (some e) (VL te):=by
 intro pins s σ H Q I hw
 rw [evalPart_some]
 refine thn (h pins s σ H _ I hw) fun u s1 hh6=>?_
 obtain ⟨x,H1,I1,r1,q1⟩:=hh6
 obtain ⟨i,rfl,q⟩:=q1
 obtain ⟨t,rfl⟩:=r1
 exact ⟨some i,H1,I1,.int i t,q⟩
noncomputable def SlR (X:Cx) (r:V->Option Int->Option Int->Hp->VK->Prop):Prop:=
 ∀ (pins:List (Addr×Obj)) (s:Shared) (σ : St) (H:Hp) (x:V) (v vl vu:Value) (lo hi:Option Int) (sl:Addr) (Q:VK),Inv X pins σ H s->RelV x v->s.heap.IsSliceOf sl vl vu .none->IsPart vl lo->IsPart vu hi->r x lo hi H Q ->
  ∃ T id,typeLookup (.type T) "__getitem__" = pure (some (.builtin id))∧s.TypeIs v T∧wpAny (model X.prog X.w) X.A (getItem v (.ref sl)) (EP X pins σ Q) X.xe s
theorem SlR.or {r r':V->Option Int->Option Int->Hp->VK->Prop} (h:SlR X r) (h':SlR X r'):SlR X (fun x lo hi H Q=>r x lo hi H Q∨r' x lo hi H Q):=by
 intro pins s σ H x v vl vu lo hi sl Q I rx hs pl pu q
 rcases q with q | q
 ·exact h pins s σ H x v vl vu lo hi sl Q I rx hs pl pu q
 ·exact h' pins s σ H x v vl vu lo hi sl Q I rx hs pl pu q
noncomputable def tSl (r:V->Option Int->Option Int->Hp->VK->Prop) (te:TE) (tl th:TO):TE:=fun σ H Q=>te σ H fun x H1=>tl σ H1 fun l H2=>th σ H2 fun u H3=>r x l u H3 Q
theorem zH {r:V->Option Int->Option Int->Hp->VK->Prop} (hr:SlR X r) (he:PE X e te) (hl:PO X lo tl) (hu:PO X hi th):PE X (.Subscript e (.Slice lo hi none p2) pos) (tSl r te tl th):=by
 intro pins s σ H Q I h
 refine Subscript_ (thn (he pins s σ H _ I h) fun v s1 ⟨x,H1,I1,r1,q1⟩=>?_)
 refine wpAny_Slice (thn (hl pins s1 σ H1 _ I1 q1) fun vl s2 ⟨l,H2,I2,pl,q2⟩=>thn (hu pins s2 σ H2 _ I2 q2) fun vu s3 ⟨u,H3,I3,pu,q3⟩=>?_)
 rw [evalPart_none]
 refine wpAny_pure ?_
 have I4:Inv X pins σ H3 { s3 with heap:=s3.heap.push { cls:=.type "slice",data:=.fields #[vl,vu,.none] } }:=I3.kept (t':=s3.toks) fun b ob q=>Heap.get?_push_of_some _ q
 obtain ⟨T,id,hT,ht,hg⟩:=hr pins { s3 with heap:=s3.heap.push { cls:=.type "slice",data:=.fields #[vl,vu,.none] } } σ H3 x v vl vu l u s3.heap.objs.size Q I4 r1 (Heap.IsSliceOf.new ..) pl pu q3
 show wpAny (model X.prog X.w) X.A (subscriptTail e (.Slice lo hi none p2) v (.ref s3.heap.objs.size)) (EP X pins σ Q) X.xe { s3 with heap:=s3.heap.push { cls:=.type "slice",data:=.fields #[vl,vu,.none] } }
 exact tail_any (ops:=[.ref s3.heap.objs.size,v]) ht hT hg (by with_unfolding_all rfl)
noncomputable def yu (xs:List V) (lo hi:Option Int):List V:=(xs.drop (HT.sIx xs.length 0 lo)).take (HT.sIx xs.length xs.length hi - HT.sIx xs.length 0 lo)
theorem qI (xs:List V) (lo hi:Option Int):(yu xs lo hi).length<=xs.length:=by
 unfold yu
 rw [List.length_take,List.length_drop]
 omega
noncomputable def Vi (K:PySem.W.Frag):V->Option Int->Option Int->Hp->VK->Prop:=fun x lo hi H Q=>∃ a xs,x = .ref a∧SqT K H a xs ∧
 ¬ (HT.sIx xs.length 0 lo=0∧HT.sIx xs.length xs.length hi=xs.length) ∧ ∀ p,H p=none->Q (.ref p) (upd H p (.tup (yu xs lo hi)))
theorem Tf:SlR X (Vi X.K):=by
 intro pins s σ H x v vl vu lo hi sl Q I rx hs pl pu h
 obtain ⟨a,xs,rfl,hx,hw,q⟩:=h
 cases rx
 obtain ⟨its,r,ht,hz⟩:=I.tuple hx
 have hlen:its.toArray.size=xs.length:=by rw [List.size_toArray];exact r.length.symm
 refine ⟨"tuple",_,PyProof.Rows.slot_tuple_getitem.lookup,ht.typeIs,?_⟩
 refine HT.oX ht hs pl pu (by rw [hlen];exact hw) ?_ (by rw [hlen];exact hz)
 rw [hlen]
 refine ⟨.ref s.heap.objs.size,_,I.laid (t':=s.toks) (o:=.tup (yu xs lo hi)) (fun b ob q=>Heap.get?_push_of_some _ q) (Nat.le_refl _) ?_,rfl,q _ (I.hok.fresh (Nat.le_refl _))⟩
 exact ⟨Nat.le_trans (qI xs lo hi) hz,_,(r.drop (HT.sIx xs.length 0 lo)).take (HT.sIx xs.length xs.length hi - HT.sIx xs.length 0 lo),IsTup.new _ _⟩
noncomputable def PK (K:PySem.W.Frag):R2:=fun x y H Q=>∃ a b xs ys,x = .ref a∧y = .ref b∧SqT K H a xs∧SqT K H b ys∧xs≠[]∧xs.length+ys.length<=sizeLine ∧
 (ys=[]->Q (.ref a) H)∧(ys≠[] -> ∀ p,H p=none->Q (.ref p) (upd H p (.tup (xs++ys))))
theorem Vals.nil_iff {xs:List V} {us:List Value} (r:Vals xs us):us=[]↔xs=[]:=by
 cases r with
 | nil=>simp
 | cons _ _=>simp
theorem MP:OpR X (binaryOp .Add) (PK X.K):=by
 intro pins s σ H x y v u Q I rx ry h
 obtain ⟨a,b,xs,ys,rfl,rfl,ha,hb,hx,hz,q1,q2⟩:=h
 cases rx
 cases ry
 obtain ⟨its,r1,p1,_⟩:=I.tuple ha
 obtain ⟨its2,r2,p2,_⟩:=I.tuple hb
 refine HT.Ky p1 p2 (fun z=>hx (r1.nil_iff.mp z)) (fun z=>⟨.ref a,H,I,rfl,q1 (r2.nil_iff.mp z)⟩) (fun z=>?_) (by rw [← r1.length,← r2.length];exact hz)
 refine ⟨.ref s.heap.objs.size,_,I.laid (t':=s.toks) (o:=.tup (xs++ys)) (fun b ob q=>Heap.get?_push_of_some _ q) (Nat.le_refl _) ?_,rfl,q2 (fun w=>z (r2.nil_iff.mpr w)) _ (I.hok.fresh (Nat.le_refl _))⟩
 exact ⟨by rw [List.length_append];exact hz,_,r1.append r2,IsTup.new _ _⟩
end
noncomputable def ixN (n:Nat) (i:Int):Option Nat:=if 0<=i then (if i<n then some i.toNat else none) else if -(n:Int)<=i then some (i+n).toNat else none
noncomputable def atI {α : Type} (xs:List α) (i:Int):Option α:=(ixN xs.length i).bind fun j=>xs[j]?
theorem wB {n:Nat} {i:Int} {j:Nat} (h:ixN n i=some j):seqIndex? i n=some j∧j<n ∧ -(n:Int)<=i∧i<n:=by
 unfold ixN at h
 by_cases h0:0<=i
 ·rw [if_pos h0] at h
  by_cases h1:i<n
  ·rw [if_pos h1] at h
   have e:i.toNat=j:=Option.some.inj h
   exact ⟨by rw [seqIndex_of h0 h1,e],by omega,by omega,h1⟩
  ·rw [if_neg h1] at h;cases h
 ·rw [if_neg h0] at h
  by_cases h1 : -(n:Int)<=i
  ·rw [if_pos h1] at h
   have e:(i+n).toNat=j:=Option.some.inj h
   exact ⟨by rw [seqIndex_neg (by omega) h1,e],by omega,h1,by omega⟩
  ·rw [if_neg h1] at h;cases h
theorem vO {α : Type} {xs:List α} {i:Int} {v : α} (h:atI xs i=some v):∃ j,seqIndex? i xs.length=some j∧xs[j]? = some v∧j<xs.length ∧ -(xs.length:Int)<=i∧i<xs.length:=by
 unfold atI at h
 cases e:ixN xs.length i with
 | none=>rw [e] at h;cases h
 | some j=>
  rw [e] at h
  obtain ⟨h1,h2,h3,h4⟩:=wB e
  exact ⟨j,h1,h,h2,h3,h4⟩
theorem mU {α : Type} {xs:List α} {j:Nat} {v : α} (h:xs[j]? = some v):atI xs (j:Int)=some v:=by
 have hj:j<xs.length:=(List.getElem?_eq_some_iff.mp h).1
 have e:ixN xs.length (j:Int)=some j:=by
  unfold ixN
  rw [if_pos (by omega),if_pos (by omega)];simp
 unfold atI;rw [e];exact h
noncomputable def oH (b:Expr):Prop:=∀ o i,subscripted b false o i=operate [o,i] (getItem o i)
noncomputable def IxR (X:Cx) (r:R2):Prop:=
 ∀ (value slice:Expr) (pins:List (Addr×Obj)) (s:Shared) (σ : St) (H:Hp) (x y:V) (v u:Value) (Q:VK),Inv X pins σ H s->RelV x v->RelV y u->r x y H Q ->
  subscripted slice false v u=operate [v,u] (getItem v u)->wpAny (model X.prog X.w) X.A (subscriptTail value slice v u) (EP X pins σ Q) X.xe s
noncomputable def MtR (X:Cx) (id:String) (r:V->List V->Hp->VK->Prop):Prop:=
 ∀ (pins:List (Addr×Obj)) (s:Shared) (σ : St) (H:Hp) (x:V) (xs:List V) (v:Value) (us:List Value) (Q:VK),Inv X pins σ H s->RelV x v->Vals xs us->r x xs H Q ->
  wpAny (model X.prog X.w) X.A (call (.builtin id) (v :: us)) (EP X pins σ Q) X.xe s
section
variable {X:Cx} {a b:Expr} {ta tb:TE} {pos:Pos}
theorem IxR.or {r r':R2} (h:IxR X r) (h':IxR X r'):IxR X (fun x y H Q=>r x y H Q∨r' x y H Q):=by
 intro value slice pins s σ H x y v u Q I rx ry q hs
 rcases q with q | q
 ·exact h value slice pins s σ H x y v u Q I rx ry q hs
 ·exact h' value slice pins s σ H x y v u Q I rx ry q hs
theorem IW {r:R2} (hr:IxR X r) (ha:PE X a ta) (hb:PE X b tb) (hs:oH b):PE X (.Subscript a b pos) (tOp r ta tb):=by
 intro pins s σ H Q I h
 exact Subscript_ (Qh ha hb I h fun v u s2 x y H2 I2 rx ry q=>hr a b pins s2 σ H2 x y v u Q I2 rx ry q (hs _ _))
noncomputable def Vb (K:PySem.W.Frag):R2:=fun x y H Q=>∃ p xs i v,x = .ref p∧y = .int i∧SqL K H p xs∧atI xs i=some v∧Q v H
noncomputable def Vd (K:PySem.W.Frag):R2:=fun x y H Q=>∃ p xs i v,x = .ref p∧y = .int i∧SqT K H p xs∧atI xs i=some v∧Q v H
noncomputable def Vc:R2:=fun x y H Q=>∃ z i c,x = .str z∧y = .int i∧z.length<=sizeLine∧atI z.cps.toList i=some c∧Q (.str ⟨#[c]⟩) H
theorem Mh:IxR X (Vb X.K):=by
 intro value slice pins s σ H x y v u Q I rx ry h hs
 obtain ⟨p,xs,i,z,rfl,rfl,hq,he,q⟩:=h
 cases rx
 obtain ⟨t,rfl⟩:=ry
 obtain ⟨its,r,pl,hz⟩:=I.list hq
 obtain ⟨j,h1,h2,h3,h4,h5⟩:=vO he
 obtain ⟨w,ew,rw'⟩:=r.get h2
 have hl:=r.length
 have hn:=nR
 have fin:EP X pins σ Q w s:=⟨z,H,I,rw',q⟩
 by_cases h0:0<=i
 ·have hj:i.toNat=j:=by
   rw [seqIndex_of h0 h5] at h1
   exact Option.some.inj h1
  exact item_listR pl.isList h0 (by omega) (by rw [hj];simpa using ew) fin hs
 ·have hj:(i+(its.toArray.size:Int)).toNat=j:=by
   rw [seqIndex_neg (by omega) h4] at h1
   rw [List.size_toArray,← hl]
   exact Option.some.inj h1
  exact subscriptTail_builtinR (x:=w) pl.isList.typeIs slot_list_getitem.lookup
   (wpAny_getItem_list_neg (Q:=fun r s'=>r=w∧EP X pins σ Q r s') pl.isList (by omega) (by rw [List.size_toArray] <;> omega) (by omega) (by rw [hj];simpa using ew) ⟨rfl,fin⟩) hs
theorem QM:IxR X (Vd X.K):=by
 intro value slice pins s σ H x y v u Q I rx ry h hs
 obtain ⟨p,xs,i,z,rfl,rfl,hq,he,q⟩:=h
 cases rx
 obtain ⟨t,rfl⟩:=ry
 obtain ⟨its,r,pl,hz⟩:=I.tuple hq
 obtain ⟨j,h1,h2,h3,h4,h5⟩:=vO he
 obtain ⟨w,ew,rw'⟩:=r.get h2
 have hl:=r.length
 have hn:=nR
 have fin:EP X pins σ Q w s:=⟨z,H,I,rw',q⟩
 exact subscriptTail_builtinR (x:=w) pl.typeIs slot_tuple_getitem.lookup
  (getItem_tuple (j:=j) (Q:=fun r s'=>r=w∧EP X pins σ Q r s') pl (by omega) (by omega) (by rw [List.size_toArray,← hl];exact h1) (by simpa using ew) ⟨rfl,fin⟩) hs
theorem QL:IxR X Vc:=by
 intro value slice pins s σ H x y v u Q I rx ry h hs
 obtain ⟨z,i,c,rfl,rfl,hz,he,q⟩:=h
 obtain ⟨t,rfl⟩:=rx
 obtain ⟨t',rfl⟩:=ry
 obtain ⟨j,h1,h2,h3,h4,h5⟩:=vO he
 have hl:z.cps.toList.length=z.length:=by simp [Str.length]
 rw [hl] at h1 h4 h5
 have hn:=nR
 exact tail_any (typeIs_str s z t) slot_str_getitem.lookup (getItem_str (c:=c) (by
  have e1:decide (i < -(2 ^ 63:Int))=false:=decide_eq_false (by omega)
  have e2:decide (i ≥ 2 ^ 63)=false:=decide_eq_false (by omega)
  rw [e1,e2,Bool.or_false]) (by rw [h1];simpa using h2) ⟨.str ⟨#[c]⟩,H,I.tok _,⟨_,rfl⟩,q⟩) hs
noncomputable def rIx (K:PySem.W.Frag):R2:=fun x y H Q=>Vb K x y H Q∨Vd K x y H Q∨Vc x y H Q
theorem jM:IxR X (rIx X.K):=Mh.or (QM.or QL)
theorem Bj (its:List Value) (n j:Nat) (u:Value):Obj.mapSeq (·.setIfInBounds j u) { cls:=.type "list",data:=.seq its.toArray n }={ cls:=.type "list",data:=.seq (its.set j u).toArray n }:=by
 simp [Obj.mapSeq]
theorem Inv.lst {pins:List (Addr×Obj)} {σ : St} {H:Hp} {s:Shared} {p:Addr} {xs:List V} (I:Inv X pins σ H s) (h:H p=some (.lst xs)) :
  ∃ (its:List Value) (n:Nat),Vals xs its∧s.heap.get? p=some { cls:=.type "list",data:=.seq its.toArray n }∧xs.length<=sizeLine:=by
 obtain ⟨z,its,n,r,e⟩:=I.hok p _ h
 exact ⟨its,n,r,e,z⟩
theorem Inv.lstUpd {pins:List (Addr×Obj)} {σ : St} {H:Hp} {s:Shared} {p:Addr} {xs ys:List V} {its its':List Value} {n n':Nat} {f:Obj->Obj} (I:Inv X pins σ H s) (h:H p=some (.lst xs))
  (ho:s.heap.get? p=some { cls:=.type "list",data:=.seq its.toArray n }) (hf:f { cls:=.type "list",data:=.seq its.toArray n }={ cls:=.type "list",data:=.seq its'.toArray n' }) (r:Vals ys its') (hz:ys.length<=sizeLine) (t:Nat) :
  Inv X pins σ (upd H p (.lst ys)) { s with heap:=s.heap.update p f,toks:=t }:=by
 have e:(s.heap.update p f).get? p=some { cls:=.type "list",data:=.seq its'.toArray n' }:=by
  rw [Heap.get?_update_self f ho (by rw [hf] <;> rfl),hf]
 refine I.write (x:=p) (e:=p) (by rw [h];trivial) (.inl rfl) (fun b u hb q=>(Heap.get?_update_other _ _ (Ne.symm hb)).trans q) ⟨_,e⟩ ?_
 exact ⟨hz,its',n',r,e⟩
noncomputable def Jo:V->V->V->Hp->(Hp->Prop)->Prop:=fun o i v H Q=>∃ p xs k j,o = .ref p∧i = .int k∧H p=some (.lst xs)∧ixN xs.length k=some j∧Q (upd H p (.lst (xs.set j v)))
theorem set_list:Ub X Jo:=by
 intro pins s σ H o i v ov iv u Q I ro ri rv h
 obtain ⟨p,xs,k,j,rfl,rfl,hp,hj,q⟩:=h
 cases ro
 obtain ⟨t,rfl⟩:=ri
 obtain ⟨its,n,r,ho,hz⟩:=I.lst hp
 obtain ⟨h1,h2,h3,h4⟩:=wB hj
 have hl:=r.length
 have hn:=nR
 have I':Inv X pins σ (upd H p (.lst (xs.set j v))) { s with heap:=s.heap.update p (Obj.mapSeq (·.setIfInBounds j u)) }:=
  I.lstUpd hp ho (Bj its n j u) (r.set rv j) (by rw [List.length_set];exact hz) s.toks
 by_cases h0:0<=k
 ·have hk:k.toNat=j:=by
   rw [seqIndex_of h0 h4] at h1
   exact Option.some.inj h1
  exact PySem.W.ki_setAt ho h0 (by omega) (by rw [List.size_toArray,← hl];exact h4) (by rw [hk];exact ⟨_,I',q⟩)
 ·have hk:(k+(its.toArray.size:Int)).toNat=j:=by
   rw [seqIndex_neg (by omega) h3] at h1
   rw [List.size_toArray,← hl]
   exact Option.some.inj h1
  exact PySem.W.ki_setBack ho (by omega) (by rw [List.size_toArray,← hl];exact h3) (by omega) (by rw [hk];exact ⟨_,I',q⟩)
theorem xW (lo hi:Option Int) (n:Nat):(sliceBounds lo hi none n).1=((HT.sIx n 0 lo:Nat):Int)∧(sliceBounds lo hi none n).2.1=((HT.sIx n n hi:Nat):Int)∧(sliceBounds lo hi none n).2.2=1:=by
 refine ⟨?_,?_,rfl⟩
 ·cases lo with
  | none=>simp [sliceBounds,HT.sIx]
  | some i=>
   simp only [sliceBounds,HT.sIx,Option.getD_none,show (1:Int)>0 by decide,if_true]
   by_cases h:i<0
   ·simp only [h,if_true] <;> omega
   ·simp only [h,if_false] <;> omega
 ·cases hi with
  | none=>simp [sliceBounds,HT.sIx]
  | some i=>
   simp only [sliceBounds,HT.sIx,Option.getD_none,show (1:Int)>0 by decide,if_true]
   by_cases h:i<0
   ·simp only [h,if_true] <;> omega
   ·simp only [h,if_false] <;> omega
theorem uO (its:List Value) (lo hi:Option Int):slicePick its.toArray lo hi none=((its.drop (HT.sIx its.length 0 lo)).take (HT.sIx its.length its.length hi - HT.sIx its.length 0 lo)).toArray:=by
 obtain ⟨h1,h2,h3⟩:=xW lo hi its.toArray.size
 unfold slicePick
 rw [h1,h2,h3]
 simp only [sliceRange_one,pick_run,List.size_toArray] <;> rfl
noncomputable def Vh (K:PySem.W.Frag):V->Option Int->Option Int->Hp->VK->Prop:=fun x lo hi H Q=>∃ a xs,x = .ref a∧SqL K H a xs ∧ ∀ p,H p=none->Q (.ref p) (upd H p (.lst (yu xs lo hi)))
theorem Og:SlR X (Vh X.K):=by
 intro pins s σ H x v vl vu lo hi sl Q I rx hs pl pu h
 obtain ⟨a,xs,rfl,hx,q⟩:=h
 cases rx
 obtain ⟨its,r,ht,hz⟩:=I.list hx
 have hlen:=r.length
 refine ⟨"list",_,slot_list_getitem.lookup,ht.isList.typeIs,?_⟩
 refine wpAny_getItem_list_slice ht.isList hs pl pu .none (by simp) ?_ (by rw [List.size_toArray] <;> omega)
 rw [uO,← hlen]
 refine ⟨.ref s.heap.objs.size,_,I.laid (t':=s.toks) (o:=.lst (yu xs lo hi)) (fun b ob q=>Heap.get?_push_of_some _ q) (Nat.le_refl _) ?_,rfl,q _ (I.hok.fresh (Nat.le_refl _))⟩
 exact ⟨Nat.le_trans (qI xs lo hi) hz,_,0,(r.drop (HT.sIx xs.length 0 lo)).take (HT.sIx xs.length xs.length hi - HT.sIx xs.length 0 lo),Heap.get?_push_size _ rfl⟩
theorem vR:gO X (.builtin "len") (fun xs H Q=>∃ p ys,xs=[.ref p]∧(SqL X.K H p ys∨SqT X.K H p ys)∧Q (.int ys.length) H):=by
 intro pins s σ H xs us Q I r h
 obtain ⟨p,ys,rfl,hq,q⟩:=h
 obtain ⟨u,rfl,rx⟩:=vals1 r
 cases rx
 have hn:=nR
 rcases hq with hq | hq
 ·obtain ⟨its,r',pl,hz⟩:=I.list hq
  have hlen:=r'.length
  exact Calls.call_len_list pl.isList (by simp only [List.size_toArray] <;> omega) ⟨.int ys.length,H,I.tok _,⟨s.toks+1,by rw [List.size_toArray,hlen]⟩,q⟩
 ·obtain ⟨its,r',pl,hz⟩:=I.tuple hq
  have hlen:=r'.length
  exact len_tuple pl (by simp only [List.size_toArray] <;> omega) ⟨.int ys.length,H,I.tok _,⟨s.toks+1,by rw [List.size_toArray,hlen]⟩,q⟩
theorem vU:gO X (.builtin "len") (fun xs H Q=>∃ z,xs=[.str z]∧z.length<=sizeLine∧Q (.int z.length) H):=by
 intro pins s σ H xs us Q I r h
 obtain ⟨z,rfl,hz,q⟩:=h
 obtain ⟨u,rfl,t,rfl⟩:=vals1 r
 have hn:=nR
 exact len_str (by omega) ⟨.int z.length,H,I.tok _,⟨_,rfl⟩,q⟩
theorem gO.or {f:Value} {r r':List V->Hp->VK->Prop} (h:gO X f r) (h':gO X f r'):gO X f (fun xs H Q=>r xs H Q∨r' xs H Q):=by
 intro pins s σ H xs us Q I rs q
 rcases q with q | q
 ·exact h pins s σ H xs us Q I rs q
 ·exact h' pins s σ H xs us Q I rs q
theorem cA:gO X (.type "tuple") (fun xs H Q=>∃ p ys,xs=[.ref p]∧((SqL X.K H p ys ∧ ∀ l,H l=none->Q (.ref l) (upd H l (.tup ys)))∨(SqT X.K H p ys∧Q (.ref p) H))):=by
 intro pins s σ H xs us Q I r h
 obtain ⟨p,ys,rfl,h⟩:=h
 obtain ⟨u,rfl,rx⟩:=vals1 r
 cases rx
 rcases h with ⟨hq,q⟩ | ⟨hq,q⟩
 ·obtain ⟨its,r',pl,hz⟩:=I.list hq
  have hlen:=r'.length
  refine call_tuple_list pl.isList (fun h' kp=>?_) (by simp only [List.size_toArray] <;> omega)
  have I1:Inv X pins σ H { s with heap:=h' }:=I.kept (t':=s.toks) kp
  have I2:Inv X pins σ (upd H h'.objs.size (.tup ys)) { s with heap:=h'.push { cls:=.type "tuple",data:=.seq its.toArray } }:=
   I1.laid (t':=s.toks) (fun b o e=>Heap.get?_push_of_some _ e) (Nat.le_refl _) (show fP X.prog X.w _ _ _ (.tup ys) from ⟨hz,its,r',IsTup.new _ _⟩)
  exact ⟨.ref h'.objs.size,_,I2,rfl,q _ (I1.hok.fresh (Nat.le_refl _))⟩
 ·obtain ⟨its,r',pl,hz⟩:=I.tuple hq
  exact call_tuple_same pl ⟨.ref p,H,I,rfl,q⟩
noncomputable def tyV (K:PySem.W.Frag) (T:String) (x:V) (H:Hp):Prop:=match x with
 | .str _=>T = "str"
 | .int _=>T = "int"
 | .ref p=>(T = "list" ∧ ∃ xs,SqL K H p xs)∨(T = "tuple" ∧ ∃ o,K.lookup p=some o∧o.cls = .type "tuple" ∧ o.dict=none) ∨
   (T = "dict" ∧ ((∃ kvs,H p=some (.dK kvs)) ∨ ∃ kvs,H p=some (.dT kvs)))∨(T = "set" ∧ ∃ S n,H p=some (.set S n))
 | _=>False
theorem Tv {pins:List (Addr×Obj)} {σ : St} {H:Hp} {s:Shared} {T:String} {x:V} {v:Value} (I:Inv X pins σ H s) (r:RelV x v) (ty:tyV X.K T x H) :
  s.TypeIs v T ∧ ∀ a,v = .ref a -> ∃ ob,s.heap.get? a=some ob∧ob.dict=none:=by
 cases x with
 | str z=>
  obtain ⟨t,rfl⟩:=r
  cases (show T = "str" from ty)
  exact ⟨typeIs_str s z t,fun _ e=>nomatch e⟩
 | int i=>
  obtain ⟨t,rfl⟩:=r
  cases (show T = "int" from ty)
  exact ⟨typeIs_int s i t,fun _ e=>nomatch e⟩
 | ref p=>
  cases r
  rcases ty with ⟨rfl,xs,hq⟩ | ⟨rfl,o,hk,hc,hd⟩ | ⟨rfl,hk⟩ | ⟨rfl,S,n,hk⟩
  ·obtain ⟨its,_,pl,_⟩:=I.list hq
   refine ⟨pl.isList.typeIs,fun a e=>?_⟩
   cases e
   obtain ⟨o,n,e,c,hd,_⟩:=pl
   exact ⟨o,e,hd⟩
  ·refine ⟨⟨o,I.kIn p o hk,hc⟩,fun a e=>?_⟩
   cases e
   exact ⟨o,I.kIn _ o hk,hd⟩
  ·have z:∃ o,s.heap.get? p=some o∧o.ExactDict:=by
    rcases hk with ⟨kvs,hk⟩ | ⟨kvs,hk⟩
    ·obtain ⟨_,_,_,_,o,_,_,e,ex,_⟩:=I.hok p _ hk
     exact ⟨o,e,ex⟩
    ·obtain ⟨_,_,_,_,o,_,_,e,ex,_⟩:=I.hok p _ hk
     exact ⟨o,e,ex⟩
   obtain ⟨o,e,ex⟩:=z
   refine ⟨⟨o,e,ex.1⟩,fun a e2=>?_⟩
   cases e2
   exact ⟨o,e,ex.2.1⟩
  ·obtain ⟨o,_,_,_,e,ex,_⟩:=I.hok p _ hk
   refine ⟨⟨o,e,ex.1⟩,fun a e2=>?_⟩
   cases e2
   exact ⟨o,e,ex.2.1⟩
 | _=>exact False.elim ty
noncomputable def tBM (K:PySem.W.Frag) (T:String) (r:V->List V->Hp->VK->Prop) (to:TE) (t:TA):TE:=fun σ H Q=>to σ H fun x H1=>tyV K T x H1∧t σ H1 fun xs H2=>r x xs H2 Q
variable {o e:Expr} {es:List Expr} {to:TE} {t:TA} {name:Str} {apos cpos:Pos} {T id:String} {r:V->List V->Hp->VK->Prop}
theorem vC (pa:PlainAttrs T) (slot:Slot T name id) (hty:typeOf (.builtin id)=pure (.type "method_descriptor")) (hm:MtR X id r) (ho:PE X o to) (ha:PA X (e :: es) t)
  (hbase:attributeBase o name X.env (eval o X.env)=eval o X.env:=by rfl)
  (hfew:((backTo cpos (starEach (e :: es) X.env)).all (fun x=>!x.1)&&(backToKw cpos (keywordEach [] X.env)).all (fun x=>x.1.isSome)
   && decide ((e :: es).length+([]:List Keyword).length+(if ([]:List Keyword).isEmpty then 0 else 1)<30))=true:=by rfl)
  (hline:(apos.endLine==cpos.line)=true:=by rfl) (hs:starEach (e :: es) X.env=(false,eval e X.env) :: starEach es X.env:=by rfl) (hplain:(backTo cpos (starEach es X.env)).any (·.1)=false:=by rfl) :
  PE X (.Call (.Attribute o name apos) (e :: es) [] cpos) (tBM X.K T r to t):=by
 intro pins s σ H Q I h
 refine wpAny_Call_method_late hbase hfew hline rfl (thn (ho pins s σ H _ I h) fun v s1 ⟨x,H1,I1,r1,ty,q1⟩=>?_)
 obtain ⟨h1,h2⟩:=Tv I1 r1 ty
 refine ⟨T,id,pa,slot,hty,h1,h2,?_⟩
 have hA:=ha cpos pins s1 σ H1 _ I1 q1
 rw [hs] at hA ⊢
 refine Calls.callWith_builtin (by show (false||(backTo cpos (starEach es X.env)).any (·.1))=false;rw [hplain] <;> rfl) (Calls.evalArgs_plain ?_)
 exact thn hA fun us s2 ⟨vs,H2,I2,r2,q2⟩=>hm pins s2 σ H2 x vs v us Q I2 r1 r2 q2
end
noncomputable def MtM (X:Cx) (id:String) (r:V->List V->Hp->VK->Prop):Prop:=
 ∀ (pins:List (Addr×Obj)) (s:Shared) (σ : St) (H:Hp) (x:V) (xs:List V) (v:Value) (us:List Value) (Q:VK),Inv X pins σ H s->RelV x v->Vals xs us->r x xs H Q ->
  wpAny (model X.prog X.w) X.A (call (.builtin id) (v :: us)) (EP X pins σ Q) X.xe s
theorem Vals.one {x:V} {us:List Value} (h:Vals [x] us):∃ u,us=[u]∧RelV x u:=by
 cases h with
 | cons r t=>cases t;exact ⟨_,rfl,r⟩
theorem Vals.rep {xs:List V} {us:List Value} (h:Vals xs us):∀ k:Nat,Vals (List.replicate k xs).flatten (List.replicate k us).flatten
 | 0=>.nil
 | k+1=>by
  rw [List.replicate_succ,List.replicate_succ,List.flatten_cons,List.flatten_cons]
  exact Vals.append h (Vals.rep h k)
theorem foldl_rep (its:List Value):∀ (k:Nat) (acc:List Value),
  List.foldl (fun x1 x2=>x1++x2) acc.toArray (List.replicate k its.toArray)=(acc++(List.replicate k its).flatten).toArray
 | 0,acc=>by simp
 | k+1,acc=>by
  have e:acc.toArray++its.toArray=(acc++its).toArray:=by simp
  have e2:(acc++its)++(List.replicate k its).flatten=acc++(List.replicate (k+1) its).flatten:=by
   rw [List.replicate_succ,List.flatten_cons,List.append_assoc]
  rw [← e2,← foldl_rep its k (acc++its),← e,List.replicate_succ,List.foldl_cons]
section
variable {X:Cx} {pins:List (Addr×Obj)} {σ : St} {H:Hp} {s:Shared} {l b:Addr} {xs ys zs:List V}
theorem Inv.lset {its its':List Value} {n:Nat} {f:Array Value->Array Value} {t':Nat} (I:Inv X pins σ H s) (hH:H l=some (.lst xs))
  (e:s.heap.get? l=some { cls:=.type "list",data:=.seq its.toArray n }) (hf:f its.toArray=its'.toArray) (hv:Vals ys its') (hz:ys.length<=sizeLine) :
  Inv X pins σ (upd H l (.lst ys)) { s with heap:=s.heap.update l (Obj.mapSeq f),toks:=t' }:=by
 have q:=PySem.IsL.update e f
 rw [hf] at q
 refine I.write (x:=l) (e:=l) (by rw [hH];exact trivial) (.inl rfl) (fun b' u hb hu=>(Heap.get?_update_other s.heap (Obj.mapSeq f) (Ne.symm hb)).trans hu) ⟨_,q⟩ ?_
 exact ⟨hz,its',_,hv,q⟩
theorem Inv.lnew {its:List Value} {t':Nat} (I:Inv X pins σ H s) (hv:Vals ys its) (hz:ys.length<=sizeLine) :
  Inv X pins σ (upd H s.heap.objs.size (.lst ys)) { s with heap:=s.heap.push { cls:=.type "list",data:=.seq its.toArray },toks:=t' }:=
 I.laid (fun _ _ q=>Heap.get?_push_of_some _ q) (Nat.le_refl _) ⟨hz,its,0,hv,Heap.get?_push_size _ rfl⟩
theorem Inv.fresh (I:Inv X pins σ H s):H s.heap.objs.size=none:=I.hok.fresh (Nat.le_refl _)
theorem Inv.lstM (I:Inv X pins σ H s) (hH:H l=some (.lst xs)):xs.length<=sizeLine ∧ ∃ (its:List Value) (n:Nat),Vals xs its∧xs.length=its.length∧s.heap.get? l=some { cls:=.type "list",data:=.seq its.toArray n }:=by
 obtain ⟨z,its,n,r,e⟩:=I.hok l _ hH
 exact ⟨z,its,n,r,r.length,e⟩
theorem pq {n:Nat} (h:n<=sizeLine):Builtin.List.listTooLong n=false:=by
 unfold Builtin.List.listTooLong
 exact decide_eq_false (by omega)
end
section
variable {X:Cx}
noncomputable def Du:V->List V->Hp->VK->Prop:=fun x vs H Q=>∃ l xs y,x = .ref l∧vs=[y]∧H l=some (.lst xs)∧xs.length<sizeLine∧Q .non (upd H l (.lst (xs++[y])))
theorem fH:MtM X "list.append" Du:=by
 intro pins s σ H x vs v us Q I rx rv h
 obtain ⟨l,xs,y,rfl,rfl,hH,hz,q⟩:=h
 cases rx
 obtain ⟨u,rfl,ru⟩:=rv.one
 obtain ⟨z,its,n,r,hl,e⟩:=I.lstM hH
 refine call_meets F.slot_list_append ⟨_,e,rfl⟩ F.entry_list_append (F.args_list_append_2 _ _) (PySem.list_append l its.toArray n u (by rw [List.size_toArray];omega)) ⟨e,?_⟩
 refine ⟨.non,_,I.lset (its':=its++[u]) hH e (by simp) (r.append (.cons ru .nil)) ?_,rfl,q⟩
 rw [List.length_append,List.length_singleton]
 omega
noncomputable def Dv:V->List V->Hp->VK->Prop:=fun x vs H Q=>∃ l b xs zs,x = .ref l∧vs=[.ref b]∧H l=some (.lst xs)∧H b=some (.lst zs)∧xs.length+zs.length<=sizeLine∧Q .non (upd H l (.lst (xs++zs)))
theorem qi:MtM X "list.extend" Dv:=by
 intro pins s σ H x vs v us Q I rx rv h
 obtain ⟨l,b,xs,zs,rfl,rfl,hH,hB,hz,q⟩:=h
 cases rx
 obtain ⟨u,rfl,ru⟩:=rv.one
 cases ru
 obtain ⟨z,its,n,r,hl,e⟩:=I.lstM hH
 obtain ⟨z2,its2,n2,r2,hl2,e2⟩:=I.lstM hB
 have hsz:its.toArray.size+its2.toArray.size<=sizeLine:=by rw [List.size_toArray,List.size_toArray];omega
 have hlong:¬ (!its.toArray.isEmpty&&Builtin.List.listTooLong (its.toArray.size+its2.toArray.size))=true:=by
  rw [pq hsz,Bool.and_false]
  exact Bool.false_ne_true
 refine call_meets F.slot_list_extend ⟨_,e,rfl⟩ F.entry_list_extend (F.args_list_extend_2 _ _)
  (AutoSeq1.list_extend_list_list_0 l its.toArray n b its2.toArray n2 hlong (by rw [List.size_toArray];omega) (by omega)) ⟨e,e2,?_⟩
 refine ⟨.non,_,I.lset (its':=its++its2) hH e (by simp) (r.append r2) ?_,rfl,q⟩
 rw [List.length_append]
 omega
noncomputable def UW:R2:=fun x y H Q=>∃ l b xs zs,x = .ref l∧y = .ref b∧H l=some (.lst xs)∧H b=some (.lst zs)∧xs.length+zs.length<=sizeLine ∧ ∀ p,H p=none->Q (.ref p) (upd H p (.lst (xs++zs)))
theorem RJ:OpR X (binaryOp .Add) UW:=by
 intro pins s σ H x y v u Q I rx ry h
 obtain ⟨l,b,xs,zs,rfl,rfl,hH,hB,hz,q⟩:=h
 cases rx
 cases ry
 obtain ⟨z,its,n,r,hl,e⟩:=I.lstM hH
 obtain ⟨z2,its2,n2,r2,hl2,e2⟩:=I.lstM hB
 refine PySem.P.add_list e e2 ?_ (by rw [List.size_toArray,List.size_toArray];omega)
 have ea:its.toArray++its2.toArray=(its++its2).toArray:=by simp
 rw [ea]
 exact ⟨.ref _,_,I.lnew (t':=s.toks) (r.append r2) (by rw [List.length_append];omega),rfl,q _ I.fresh⟩
noncomputable def Sv:R2:=fun x y H Q=>∃ l k xs,x = .ref l∧y = .int k∧H l=some (.lst xs) ∧ -(2 ^ 63)<=k∧k<2 ^ 63∧xs.length*k.toNat<=sizeLine ∧
 ∀ p,H p=none->Q (.ref p) (upd H p (.lst (List.replicate k.toNat xs).flatten))
theorem len_rep {α : Type} (xs:List α) (k:Nat):(List.replicate k xs).flatten.length=k*xs.length:=by
 induction k with
 | zero=>simp
 | succ k ih=>rw [List.replicate_succ,List.flatten_cons,List.length_append,ih,Nat.succ_mul,Nat.add_comm]
theorem RK:OpR X (binaryOp .Mult) Sv:=by
 intro pins s σ H x y v u Q I rx ry h
 obtain ⟨l,k,xs,rfl,rfl,hH,h1,h2,hz,q⟩:=h
 cases rx
 obtain ⟨t,rfl⟩:=ry
 obtain ⟨z,its,n,r,hl,e⟩:=I.lstM hH
 have hlen:its.toArray.size*k.toNat<=sizeLine:=by rw [List.size_toArray,← hl];exact hz
 have hcap:¬ its.toArray.size*k.toNat>(2 ^ 63 - 1) / 8:=by
  have:(sizeLine:Nat)<=(2 ^ 63 - 1) / 8:=by decide
  omega
 have hfit:¬ (!Builtin.List.listFitsIndex k)=true:=by
  rw [fitsIndex_both h1 h2]
  exact Bool.false_ne_true
 have hlong:¬ Builtin.List.listTooLong (its.toArray.size*k.toNat)=true:=by
  rw [pq hlen]
  exact Bool.false_ne_true
 have hnew:List.foldl (fun x1 x2=>x1++x2) #[] (List.replicate (if its.toArray.isEmpty=true then 0 else k.toNat) its.toArray)=(List.replicate k.toNat its).flatten.toArray:=by
  have f0:∀ m:Nat,List.foldl (fun x1 x2=>x1++x2) #[] (List.replicate m its.toArray)=(List.replicate m its).flatten.toArray:=fun m=>by
   have:=foldl_rep its m []
   rw [List.nil_append] at this
   exact this
  rw [f0]
  cases its with
  | nil=>simp
  | cons a r'=>rw [if_neg (by simp)]
 refine wpAny_binaryOp_repeat_ref (T:= "list") (U:= "int") (by decide) ⟨_,e,rfl⟩ (fun s'=>typeIs_int s' k t) noFill_list_mul F.fills_int_mul F.slot_int_rmul repeat_list F.slot_int_index.lookup
  (call_meets F.slot_int_rmul (typeIs_int s k t) F.entry_int_rmul (F.args_int_rmul_2 _ _) (int___rmul___int_list k t l its.toArray n)
   ⟨e,rfl,⟨_,e,rfl⟩,call_meets F.slot_list_mul ⟨_,e,rfl⟩ F.entry_list_mul (F.args_list_mul_2 _ _) (AutoListH.list___mul___list_int_3 l its.toArray n k t hfit hcap hlong) ⟨e,?_⟩⟩)
 rw [hnew]
 exact ⟨.ref _,_,I.lnew (t':=s.toks) (r.rep k.toNat) (by rw [len_rep,Nat.mul_comm];exact hz),rfl,q _ I.fresh⟩
end
section
variable {prog:Program} {w:World} {A:Around} {E:Value->Shared->Prop} {s:Shared}
end
section
variable {X:Cx}
end
end L2
namespace Att
open PySem PySem.W PySem.Calls PyProof.Rows
theorem qP {P:Params} {h:Heap}:∀ (ns:List Int) (vs:List Value),WellAll P h vs (ns.map WData.int)->IntsAre vs ns:=by
 intro ns
 induction ns with
 | nil=>
  intro vs w
  rw [List.map_nil] at w
  cases w
  exact .nil
 | cons n ns ih=>
  intro vs w
  rw [List.map_cons] at w
  cases w with
  | cons a b=>
   cases a
   exact .cons _ _ (ih _ b)
theorem Gf {l:OpenLaw} {n:Nat} (hn:l.most=some n) {P:Params} {h:Heap} {args:List WData} {vals:List Value}
  (hpre:l.row.toRowW.claim.pre args=true) (hwl:WellAll P h vals args) :
  ∃ a vs ns,vals=[Value.ref a]∧args=[WData.list (ns.map WData.int)]∧h.get? a=some { cls:=.type "list",data:=.seq vs.toArray }∧IntsAre vs ns∧ns.length<=n:=by
 have hsh:WShape.hasAll [] args [.list .int]=true:=(pre_splitW hpre).1
 have hc:l.pre.holds [] { args:=args }=true:=(pre_splitW hpre).2
 obtain ⟨d,r,rfl,h1,h2⟩:=hasAllW_cons hsh
 obtain rfl:=hasAllW_nil h2
 obtain ⟨xs,rfl,h3⟩:=hasW_list h1
 obtain ⟨ns,rfl⟩:=items_int h3
 have hlen:ns.length<=n:=by
  unfold OpenLaw.pre at hc
  have h4:(WTm.not (.lt (.lit (.int (n:Int))) (.len (.arg 0)))).holds [] { args:=[.list (ns.map .int)] }=true:=by
   have h4:=(holds_andW hc).1
   rw [hn] at h4
   exact h4
  have h5:=condW_of h4 (w_not (w_lt w_lit (w_len_list (w_arg rfl))))
  rw [List.length_map] at h5
  refine Nat.le_of_not_lt fun q=>?_
  have q':(n:Int)<((ns.length:Nat):Int):=by omega
  first
   | (rw [decide_eq_true q'] at h5;exact absurd h5 (by decide))
   | (simp at h5;omega)
 cases hwl with
 | cons w1 w2=>
  cases w2
  cases w1 with
  | list ho hall=>exact ⟨_,_,ns,rfl,rfl,ho,qP ns _ hall,hlen⟩
theorem Ga (l:OpenLaw) (args:List WData):l.row.toRowW.claim.post args (.bool true) args=true:=
 postW_of (r:=l.row.toRowW) (X:=(true==true))
  (show WShape.has [] (.bool true) .bool=true by first | rfl | decide | simp [WShape.has,WShape.arms,WShape.armsAll])
  (show (WTm.eq .res (.lit (.bool true))).value [] { args:=args,res:=some (.bool true),after:=args }=some (.bool (true==true)) from w_eq_bool (w_res rfl) w_lit) rfl
theorem yh {l:OpenLaw} {n:Nat} {q:Program} {loose:List Str} {XP:(Str->Option Value)->Heap->Prop} {YP:World->Heap->Prop} {d:DefRec}
  (hn:l.most=some n) (hdf:d.params.defaults=[])
  (call:∀ (w:World) (s₀ s₁ : Shared) (mg mb:Str->Option Value) (fa:Addr) (o:Obj) (pm cd doc:Value) (a:Addr) (vs:List Value) (ns:List Int),
   Ground q loose [] XP w s₀ mg mb s₁.heap->YP w s₁.heap ->
   s₁.heap.get? fa=some o->o.data = .func (docDef d.name d.params d.body d.scope pm cd doc)->s₁.heap.CodeRec cd d.name->mg d.name=some (.ref fa) ->
   s₁.heap.get? a=some { cls:=.type "list",data:=.seq vs.toArray }->IntsAre vs ns->ns.length<=n->s₁.gens = #[] ->
   codeAny (model l.prog w) callerA (.call (.ref fa) ⟨[.ref a],[]⟩) (fun r s'=>r = .ok (.ret (.bool true))∧OldK s₁.heap s'.heap∧s'.os=s₁.os∧AllBare s'.gens) s₁) :
  WalkO q loose XP YP l.row.toRowW d [] (fun f vs=>PySem.call f vs):=by
 intro w s₀ s₁ mg mb G Y fa o pm cd doc dV kV ho hd hcd hD hmg hg args vals as hpre hlay hrd hwl hlo
 obtain rfl:dV = .none:=Dflts.none hD hdf
 obtain rfl:kV = .none:=Dflts.noKw hD
 obtain ⟨a,vs,ns,rfl,rfl,hobj,hints,hlen⟩:=Gf hn hpre hwl
 refine enter_call (codeAny_mono (call w s₀ s₁ mg mb fa o pm cd doc a vs ns G Y ho (fd_plain hd) hcd hmg hobj hints hlen hg) fun r s' hq=>?_)
 obtain ⟨rfl,h2,h3,h4⟩:=hq
 exact ⟨.inl ⟨.bool true,.bool true,[],rfl,fun _=>rfl,.bool true,Ga l _,fun _=>⟨List.Pairwise.nil,fun _ hm=>(nomatch hm)⟩⟩,h2,h3,h4⟩
section
variable {prog:Program} {w:World} {A:Around} {E:Value->Shared->Prop} {s:Shared} {K:Frag}
end
end Att
namespace L2
open PySem PySem.Spec PyProof.Rows
theorem vL:∀ {vs:List Value} {ns:List Int},IntsAre vs ns->Vals (ns.map V.int) vs
 | _,_,.nil=>.nil
 | _,_,.cons n t h=>.cons ⟨t,rfl⟩ (vL h)
noncomputable def Only (H:Hp):Prop:=∀ b,H b=none ∨ ∃ o xs,H b=some (.frz o (.lst xs))
theorem HW {P:Program} {w:World} {K:PySem.W.Frag} {mg mb:Str->Option Value} {CX:CXT} {k:Nat} {fa a:Addr} {fd:FuncData} {x:Str} {sp:Sp} {s₁ : Shared} {vs:List Value} {ns:List Int}
  (KX:K.In s₁.heap) (hns:s₁.heap.Ns mainGlobals mg) (hb:s₁.heap.Ns builtinsNs mb) (hbb:∀ x:Str,x ≠ "__name__" -> mb x=bootBuiltins x) (hlim:s₁.heap.NoLimit) (hseer:s₁.heap.NoSeer) (hg:s₁.gens = #[])
  (ha:s₁.heap.get? a=some { cls:=.type "list",data:=.seq vs.toArray }) (hi:IntsAre vs ns) (hl:ns.length<=sizeLine) (hr:Room k callerA)
  (F:∀ base:Heap,K.In base->base.Ns mainGlobals mg->FnOk P w K mg base CX k fa fd [x] sp) (hbind:∀ (s:Shared) (u:Value),BindsTo s fd ⟨[u],[]⟩ [(x,u)])
  (hsp:∀ H:Hp,Only H->SqL K H a (ns.map V.int)->sp [.ref a] H (fun v _=>v = .bl true) fun _ _ _=>False)
  (hCX:∀ H e s',CX [] H s₁ (fun _ _ _=>False) e s'->False) :
  codeAny (model P w) callerA (.call (.ref fa) ⟨[.ref a],[]⟩) (fun r s'=>r = .ok (.ret (.bool true))∧OldK s₁.heap s'.heap∧s'.os=s₁.os∧AllBare s'.gens) s₁:=by
 have rv:=vL hi
 have lenV:=hi.length
 have core:∀ H:Hp,Only H->SqL K H a (ns.map V.int)->HOk P w H s₁.heap->(∀ b,H b≠none->b=a)->(H a≠none->K.lookup a=none) ->
   codeAny (model P w) callerA (.call (.ref fa) ⟨[.ref a],[]⟩) (fun r s'=>r = .ok (.ret (.bool true))∧OldK s₁.heap s'.heap∧s'.os=s₁.os∧AllBare s'.gens) s₁:=by
  intro H hO hS hok hA hK
  have base_of:∀ {b:Addr} {o:Obj},s₁.heap.get? b=some o->H b=none->(wy s₁.heap H).get? b=some o:=fun e n=>Hr e n
  have noA:∀ {b:Addr} {o:Obj} {es:Array DictEntry} {ep:Nat},s₁.heap.get? b=some o->o.data = .dict es ep->H b=none:=fun {b o es ep} e d=>by
   cases q:H b with
   | none=>rfl
   | some u=>
    have e':b=a:=hA b (by rw [q];simp)
    subst e'
    rw [ha] at e;cases e
    have d':Data.seq vs.toArray _=Data.dict es ep:=d
    cases d'
  have nsK:∀ {b:Addr} {m:Str->Option Value},s₁.heap.Ns b m->(wy s₁.heap H).Ns b m:=fun {b m} ⟨o,es,ep,e,d,r⟩=>⟨o,es,ep,base_of e (noA e d),d,r⟩
  have hKb:K.In (wy s₁.heap H):=fun b o e=>base_of (KX b o e) (by
   cases q:H b with
   | none=>rfl
   | some u=>
    have e':b=a:=hA b (by rw [q];simp)
    subst e'
    rw [hK (by rw [q];simp)] at e;cases e)
  have hM:Mod K mg (wy s₁.heap H):=⟨hKb,nsK hns,⟨mb,nsK hb,hbb⟩,(let ⟨mc,h1,h2⟩:=hlim;⟨mc,nsK h1,h2⟩),
   { statics:=let ⟨mc,h1,h2⟩:=hseer.statics;⟨mc,nsK h1,h2⟩
     mods:=let ⟨mc,h1,h2⟩:=hseer.mods;⟨mc,nsK h1,h2⟩
     imp:=let ⟨mc,h1,h2⟩:=hseer.imp;⟨mc,nsK h1,h2⟩
     main:=by
      obtain ⟨mg',bm,ob,h1,h2,h3,h4,h5⟩:=hseer.main
      refine ⟨mg',bm,ob,nsK h1,h2,base_of h3 ?_,h4,h5⟩
      cases q:H bm with
      | none=>rfl
      | some u=>
       have e':bm=a:=hA bm (by rw [q];simp)
       subst e'
       rw [ha] at h3;cases h3
       exact absurd h4 (by intro z;injection z with z;exact absurd z (by decide)) }⟩
  have e0:Env0 P w K mg (wy s₁.heap H) callerA [] s₁ H:=⟨rfl,hM,fun b o e=>MN e,Nat.le_of_eq (Ez _ _),trivial,fun b hb=>absurd (show b∈([]:List Addr) from hb) (by simp),hok,.of_eq hg⟩
  refine codeAny_mono ((F _ hKb (nsK hns)).run callerA [] s₁ H ⟨[.ref a],[]⟩ [.ref a] [.ref a] _ _ hr e0 (hbind s₁ (.ref a)) (.cons rfl .nil) (hsp H hO hS)) fun r s' h=>?_
  cases r with
  | error e=>exact (hCX H e s' h).elim
  | ok fl=>
   cases fl with
   | next=>exact False.elim h
   | brk=>exact False.elim h
   | cont=>exact False.elim h
   | ret u=>
    obtain ⟨v,H',os,bare,un,hok',r',q⟩:=h
    have q':v = .bl true:=q
    subst q'
    obtain rfl:u=Value.bool true:=r'
    refine ⟨rfl,OldK.of_keep fun b o e=>?_,os,bare⟩
    cases q:H b with
    | none=>exact un.keep b o e q (by intro z;exact absurd (show b∈([]:List Addr) from z) (by simp)) (by simp)
    | some u=>
     rcases hO b with z | ⟨ob,xs,z⟩
     ·rw [q] at z;cases z
     ·have z2:=un.frzs b ob _ z
      obtain ⟨e1,_⟩:=hok b _ z
      obtain ⟨e2,_⟩:=hok' b _ z2
      rw [e] at e1;cases e1
      exact e2
 cases hk:K.lookup a with
 | some o=>
  have e:=KX a o hk
  rw [ha] at e
  cases e
  refine core (fun _=>none) (fun _=>.inl rfl) (.inr ⟨_,vs.toArray,_,hk,rfl,rfl,rfl,by rw [List.size_toArray,lenV];exact hl,by simpa using rv⟩) (fun b u z=>by have z':(none:Option HO)=some u:=z;cases z') (fun b z=>absurd rfl z) fun z=>absurd rfl z
 | none=>
  refine core (fun b=>if b=a then some (.frz { cls:=.type "list",data:=.seq vs.toArray } (.lst (ns.map V.int))) else none) (fun b=>?_) (.inl (.inr ⟨{ cls:=.type "list",data:=.seq vs.toArray },if_pos rfl⟩)) (fun b u z=>?_) (fun b z=>?_) fun _=>hk
  ·by_cases hb:b=a
   ·exact .inr ⟨_,_,if_pos hb⟩
   ·exact .inl (if_neg hb)
  ·by_cases hb:b=a
   ·have z':=(if_pos hb).symm.trans z
    cases z'
    subst hb
    exact ⟨ha,by rw [List.length_map];exact hl,vs,_,rv,ha⟩
   ·have z':=(if_neg hb).symm.trans z
    cases z'
  ·by_cases hb:b=a
   ·exact hb
   ·exact absurd (if_neg hb) z
noncomputable abbrev KOf {K:PySem.W.Frag} {h:Heap} (_:K.In h):PySem.W.Frag:=K
theorem Ow {l:PySem.W.OpenLaw} {n k:Nat} {q:Program} {loose:List Str} {XP:(Str->Option Value)->Heap->Prop} {YP:World->Heap->Prop} {d:DefRec} {K:Params->PySem.W.Frag} {CX:World->CXT} {sp:World->Sp} {x:Str}
  (hn:l.most=some n) (hn2:n<=sizeLine) (hdf:d.params.defaults=[]) (himp:importsNone q=true) (hr:Room k callerA)
  (hY:∀ (w:World) (h:Heap),YP w h->(K w.params).In h)
  (F:∀ (w:World) (mg:Str->Option Value) (fa:Addr) (h:Heap),(K w.params).In h->h.Ns mainGlobals mg->mg d.name=some (.ref fa) ->
   ∃ fd:FuncData,(∀ (s:Shared) (u:Value),BindsTo s fd ⟨[u],[]⟩ [(x,u)]) ∧
    ∀ base:Heap,(K w.params).In base->base.Ns mainGlobals mg->FnOk l.prog w (K w.params) mg base (CX w) k fa fd [x] (sp w))
  (hsp:∀ (w:World) (H:Hp) (a:Addr) (ns:List Int),ns.length<=n->Only H->SqL (K w.params) H a (ns.map V.int)->sp w [.ref a] H (fun v _=>v = .bl true) fun _ _ _=>False)
  (hCX:∀ (w:World) (H:Hp) (s:Shared) (e:Value) (s':Shared),CX w [] H s (fun _ _ _=>False) e s'->False) :
  PySem.W.WalkO q loose XP YP l.row.toRowW d [] (fun f vs=>PySem.call f vs):=by
 refine Att.yh hn hdf fun w s₀ s₁ mg mb fa o pm cd doc a vs ns G Y ho hd hcd hmg hobj hints hlen hg=>?_
 have KX:=hY w _ Y
 obtain ⟨fd,hb,hF⟩:=F w mg fa _ KX G.T.g hmg
 exact HW KX G.T.g G.T.b G.T.builtins G.T.nolimit (G.T.seer himp) hg hobj hints (Nat.le_trans hlen hn2) hr hF hb (fun H hO hS=>hsp w H a ns hlen hO hS) fun H e s'=>hCX w H s₁ e s'
noncomputable abbrev CX0:CXT:=fun _ _ _ _ _ _=>False
noncomputable abbrev E0:XK:=fun _ _ _=>False
theorem Do {X:Cx}:rM CX0 X E0:=fun _ _ _ _ _ _ _ h=>h.elim
structure Fun (K:PySem.W.Frag) (x qual:Str) (st:Stmt) (f:Addr) (fd:FuncData):Prop where
 ex:∃ (oc:Value) (od:Option Addr) (kV doc pm:Value) (an:Option Addr) (cdv ct:Value) (osl:Array (Option Value)),
  fd=PySem.W.fnOf x qual (jy st) (fY st) (aF st) .none kV doc pm an cdv ct∧K.lookup f=some ⟨oc,od,.func fd,osl⟩∧PySem.W.codeIn K cdv qual=true
 kp:PySem.W.keepIn K (.ref f)=true
section
variable {P:Program} {w:World} {K:PySem.W.Frag} {mg:Str->Option Value} {base:Heap}
theorem Fun.binds {x qual:Str} {st:Stmt} {f:Addr} {fd:FuncData} {ps:List Str} (F:Fun K x qual st f fd)
  (h:∀ (kV doc pm:Value) (an:Option Addr) (cdv ct:Value) (us:List Value),us.length=ps.length->bindArgs (PySem.W.fnOf x qual (jy st) (fY st) (aF st) .none kV doc pm an cdv ct) ⟨us,[]⟩=pure (ps.zip us)):Binds K fd ps []:=by
 obtain ⟨oc,od,kV,doc,pm,an,cdv,ct,osl,rfl,lk,hcd⟩:=F.ex
 exact .all (h kV doc pm an cdv ct)
theorem Ay {x qual:Str} {st:Stmt} {f:Addr} {oc:Value} {od an:Option Addr} {osl:Array (Option Value)} {kV doc pm cdv ct:Value} (l:K.lookup f=some ⟨oc,od,.func (PySem.W.fnOf x qual (jy st) (fY st) (aF st) .none kV doc pm an cdv ct),osl⟩)
  (c:PySem.W.codeIn K cdv qual=true) (k:PySem.W.keepIn K (.ref f)=true):Fun K x qual st f (PySem.W.fnOf x qual (jy st) (fY st) (aF st) .none kV doc pm an cdv ct):=⟨⟨oc,od,kV,doc,pm,an,cdv,ct,osl,rfl,l,c⟩,k⟩
end
section
variable {X:Cx}
end
noncomputable def qM (H H':Hp):Prop:=∀ b o,H b=some o->H' b=some o
noncomputable def TJ (i j:Int):Prop:=i.natAbs<2 ^ 4000∧j.natAbs<2 ^ 4000
section
variable {X:Cx}
theorem ig:gO X (.builtin "isinstance") (fun xs H Q=>∃ (x:V) (T:String) (t:Value) (b:Bool),xs=[x,.ty T]∧TyOf X.K H x t∧PySem.W.kitOne X.K t (.type T)=some b∧Q (.bl b) H):=by
 intro pins s σ H xs us Q I r h
 obtain ⟨x,T,t,b,rfl,ty,e,q⟩:=h
 obtain ⟨u,u2,rfl,rx,ry⟩:=vals2 r
 cases (show u2=Value.type T from ry)
 exact Fd I rx ty e fun tk=>⟨.bl b,H,I.tok tk,rfl,q⟩
theorem qG:∀ {bs:List Bool} {us:List Value},Vals (bs.map V.bl) us->LSm.BoolsAre us bs
 | [],_,.nil=>.nil
 | b :: bs,_,.cons r t=>by
  cases (show _=Value.bool b from r)
  exact .cons _ (qG t)
theorem jh (hc:X.calm=true):gO X (.builtin "all") (fun xs H Q=>∃ (p:Addr) (bs:List Bool),xs=[.ref p]∧SqL X.K H p (bs.map V.bl)∧Q (.bl (bs.all id)) H):=by
 intro pins s σ H xs us Q I r h
 obtain ⟨p,bs,rfl,hp,q⟩:=h
 obtain ⟨u,rfl,ru⟩:=vals1 r
 cases (show u=Value.ref p from ru)
 obtain ⟨its,rv,pl,hz⟩:=I.list hp
 have lt:p<s.heap.objs.size:=by
  obtain ⟨o,n,e,_⟩:=pl
  exact Heap.lt_size e
 have ba:=qG rv
 have hd:=I.ok.hd hc
 refine call_all_walk (wpAny_pyIter_list pl.isList ?_)
 refine ⟨s.heap.objs.size,[s.heap.objs.size,p],[s.heap.objs.size],its.toArray.size,_,_,fun i=>(bs[i]?).getD true,rfl,
  Walks.list (A:=X.A.in1) hd _ p (Nat.ne_of_lt lt) its.toArray,⟨⟨_,Heap.get?_push_size _ rfl,rfl,rfl⟩,pl.isList.push _⟩,fun i v s' Q' E' hP hQ=>?_,fun h' tk hk=>?_⟩
 ·obtain ⟨b,e,rfl⟩:=ba.get i v (by simpa using hP)
  dsimp only at hQ
  rw [e] at hQ
  exact wpAny_truthy_bool hQ
 ·have e:((List.range its.toArray.size).all fun i=>(bs[i]?).getD true)=bs.all id:=by
   rw [List.size_toArray,ba.length];exact LSm.range_all bs
  rw [e]
  exact ⟨.bl (bs.all id),H,I.kept (LSm.kept_iter hk),rfl,q⟩
end
mutual
inductive Dp (K:PySem.W.Frag) (H:Hp):V->PyData->Prop where
 | non:Dp K H .non .none
 | bl (b:Bool):Dp K H (.bl b) (.bool b)
 | int (i:Int):Dp K H (.int i) (.int i)
 | str (x:Str):Dp K H (.str x) (.str x)
 | lst {a:Addr} {xs:List V} {ds:List PyData}:SqL K H a xs->DpAll K H xs ds->Dp K H (.ref a) (.list ds)
 | tup {a:Addr} {xs:List V} {ds:List PyData}:SqT K H a xs->DpAll K H xs ds->Dp K H (.ref a) (.tuple ds)
inductive DpAll (K:PySem.W.Frag) (H:Hp):List V->List PyData->Prop where
 | nil:DpAll K H [] []
 | cons {x:V} {xs:List V} {d:PyData} {ds:List PyData}:Dp K H x d->DpAll K H xs ds->DpAll K H (x :: xs) (d :: ds)
end
section
variable {X:Cx} {pins:List (Addr×Obj)} {σ : St} {H:Hp} {s:Shared}
mutual
theorem Dp.reads (I:Inv X pins σ H s):∀ {x:V} {d:PyData} {u:Value},Dp X.K H x d->RelV x u -> ∃ as,Reads s.heap u d as
 | _,_,u,.non,r=>by cases (show u=Value.none from r);exact ⟨_,.none⟩
 | _,_,u,.bl b,r=>by cases (show u=Value.bool b from r);exact ⟨_,.bool b⟩
 | _,_,u,.int i,r=>by obtain ⟨t,e⟩:=(show ∃ t,u=Value.int i t from r);cases e;exact ⟨_,.int i t⟩
 | _,_,u,.str x,r=>by obtain ⟨t,e⟩:=(show ∃ t,u=Value.str x t from r);cases e;exact ⟨_,.str x t⟩
 | _,_,u,.lst (a:=a) hq hd,r=>by
  cases (show u=Value.ref a from r)
  obtain ⟨its,rv,p,hz⟩:=I.list hq
  obtain ⟨as,q⟩:=DpAll.reads I hd rv
  obtain ⟨o,ho,hc,n,hdt⟩:=p.isList
  exact ⟨_,Reads.list ho hc hdt (by simpa using q)⟩
 | _,_,u,.tup (a:=a) hq hd,r=>by
  cases (show u=Value.ref a from r)
  obtain ⟨its,rv,p,hz⟩:=I.tuple hq
  obtain ⟨as,q⟩:=DpAll.reads I hd rv
  obtain ⟨o,ho,hc,n,hdt⟩:=p
  exact ⟨_,Reads.tuple ho hc hdt (by simpa using q)⟩
theorem DpAll.reads (I:Inv X pins σ H s):∀ {xs:List V} {ds:List PyData} {us:List Value},DpAll X.K H xs ds->Vals xs us -> ∃ as,ReadsAll s.heap us ds as
 | _,_,_,.nil,.nil=>⟨_,.nil⟩
 | _,_,_,.cons h t,.cons r rr=>by
  obtain ⟨as,q⟩:=Dp.reads I h r
  obtain ⟨bs,p⟩:=DpAll.reads I t rr
  exact ⟨_,.cons q p⟩
end
end
section
variable {X:Cx}
noncomputable def Va (K:PySem.W.Frag):R2:=fun x y H Q=>∃ d e,Dp K H x d∧Dp K H y e∧SeqAt.shaped d=true∧SeqAt.shaped e=true∧Q (.bl (PyData.eqv d e)) H
noncomputable def Vf (K:PySem.W.Frag):R2:=fun x y H Q=>∃ d e,Dp K H x d∧Dp K H y e∧SeqAt.shaped d=true∧SeqAt.shaped e=true∧Q (.bl (!PyData.eqv d e)) H
theorem jN (hu:X.A.units+64<cLine):OpR X (compareOp .Eq) (Va X.K):=by
 intro pins s σ H x y v u Q I rx ry h
 obtain ⟨d,e,hx,hy,sx,sy,q⟩:=h
 obtain ⟨as,r1⟩:=hx.reads I rx
 obtain ⟨bs,r2⟩:=hy.reads I ry
 exact eq_dataH r1 r2 sx sy hu ⟨.bl _,H,I,rfl,q⟩
theorem qj (hu:X.A.units+64<cLine):OpR X (compareOp .NotEq) (Vf X.K):=by
 intro pins s σ H x y v u Q I rx ry h
 obtain ⟨d,e,hx,hy,sx,sy,q⟩:=h
 obtain ⟨as,r1⟩:=hx.reads I rx
 obtain ⟨bs,r2⟩:=hy.reads I ry
 exact ne_dataH r1 r2 sx sy hu ⟨.bl _,H,I,rfl,q⟩
end
section
variable {prog:Program} {w:World} {A:Around} {R:Result->Shared->Prop} {s:Shared}
noncomputable abbrev Eg (ifs:List Expr) (env:Env):Sem Bool:=
 forIn ifs true fun c r=>if r=true then do let ok ← isTrue c env (eval c env);pure (ForInStep.yield ok) else pure (ForInStep.yield r)
theorem yr {elt tg iter:Expr} {ifs:List Expr} {scope:Scope} {pos:Pos} {it acc:Value} {env:Env} (I:Nat->Shared->Prop)
  (turn:∀ n s,I n s->wpAny (model prog w) A (pyNext it) (fun r s₁ => match r with
   | none=>R (.ok .next) s₁
   | some v=>wpAny (model prog w) A (letOwnedTupleGo tg it v) (fun _ s₂ => wpAny (model prog w) A (assign tg env v) (fun _ s₃ =>
     wpAny (model prog w) A (Eg ifs env) (fun ok s₄ =>
      if ok=true then wpAny (model prog w) A (eval elt env) (fun x s₅ => wpAny (model prog w) A (call (.builtin "list.append") [acc,x]) (fun _ s₆ => ∃ m,m<n∧I m s₆) (fun _ _=>False) s₅) (fun _ _=>False) s₄
      else ∃ m,m<n∧I m s₄) (fun _ _=>False) s₃) (fun _ _=>False) s₂) (fun _ _=>False) s₁) (fun _ _=>False) s)
  (n:Nat) (h:I n s) :
  codeAny (model prog w) A (.compLoop (.ListComp elt [⟨tg,iter,ifs,0⟩] scope pos) 0 it acc env) R s:=by
 have no:∀ {α : Type} {m:Sem α} {Q : α -> Shared->Prop} {E:Value->Shared->Prop} {s:Shared},wpAny (model prog w) A m Q (fun _ _=>False) s->wpAny (model prog w) A m Q E s:=
  fun h=>wpAny_mono h (fun _ _ q=>q) fun _ _ f=>f.elim
 refine codeAny_loop rfl I (fun n s hI=>?_) n h
 show wpAny _ A (Sem.onRaise (compTurn (.ListComp elt [⟨tg,iter,ifs,0⟩] scope pos) 0 it acc env) (fun x=>do noteFrame x env;theTreesLotGoes x)) _ _ s
 refine wpAny_noted ?_
 rw [compTurn_list]
 refine wpAny_bind (wpAny_standAt (wpAny_bind (wpAny_mono (no (turn n s hI)) (fun r s₁ h₁ => ?_) fun _ _ z=>z)))
 cases r with
 | none=>exact wpAny_pure h₁
 | some v=>
  refine wpAny_bind (wpAny_mono (no h₁) (fun _ s₂ h₂ => ?_) fun _ _ z=>z)
  refine wpAny_bind (wpAny_mono (no h₂) (fun _ s₃ h₃ => ?_) fun _ _ z=>z)
  refine wpAny_bind (wpAny_mono (no h₃) (fun ok s₄ h₄ => ?_) fun _ _ z=>z)
  cases ok with
  | false=>exact wpAny_pure ⟨rfl,h₄⟩
  | true=>
   refine wpAny_bind (wpAny_bind (wpAny_mono (no h₄) (fun x s₅ h₅ => ?_) fun _ _ z=>z))
   refine wpAny_bind (wpAny_mono (no h₅) (fun _ s₆ h₆ => ?_) fun _ _ z=>z)
   exact wpAny_pure (wpAny_pure ⟨rfl,h₆⟩)
end
theorem nQ {env:Env}:∀ (names:List (Str×NameKind)) (cs:List (Str×Addr)),
  (∀ n,(n,NameKind.free)∈names -> ∃ c,env.cells.lookup n=some c) ->
  ∃ cl:List (Str×Addr),(forIn names cs (fun (x:Str×NameKind) (r:List (Str×Addr))=>if (x.2==NameKind.free)=true then do let c ← cellOf env x.1;pure (ForInStep.yield ((x.1,c) :: r)) else pure (ForInStep.yield r)):Sem _)=pure cl ∧
   (∀ x c,(x,c)∈cl->(x,c)∈cs∨env.cells.lookup x=some c)∧(∀ x c,(x,c)∈cs -> ∃ c',(x,c')∈cl) ∧ ∀ x,(x,NameKind.free)∈names -> ∃ c,(x,c)∈cl
 | [],cs,_=>⟨cs,rfl,fun _ _ h=>.inl h,fun x c h=>⟨c,h⟩,fun _ h=>nomatch h⟩
 | (n,k) :: r,cs,h=>by
  have hr:∀ m,(m,NameKind.free)∈r -> ∃ c,env.cells.lookup m=some c:=fun m hm=>h m (List.mem_cons_of_mem _ hm)
  by_cases hk:k=NameKind.free
  ·subst hk
   obtain ⟨c,hc⟩:=h n List.mem_cons_self
   obtain ⟨cl,e,a,b,d⟩:=nQ r ((n,c) :: cs) hr
   refine ⟨cl,?_,fun x c' hx=>?_,fun x c' hx=>b x c' (List.mem_cons_of_mem _ hx),fun x hx=>?_⟩
   ·rw [List.forIn_cons]
    simp only [beq_self_eq_true,if_true,cellOf,hc,pure_bind]
    exact e
   ·rcases a x c' hx with z | z
    ·rcases List.mem_cons.mp z with z | z
     ·cases z;exact .inr hc
     ·exact .inl z
    ·exact .inr z
   ·rcases List.mem_cons.mp hx with z | z
    ·cases z;exact b n c List.mem_cons_self
    ·exact d x z
  ·obtain ⟨cl,e,a,b,d⟩:=nQ r cs hr
   have hb:(k==NameKind.free)=false:=by simpa using hk
   refine ⟨cl,?_,a,b,fun x hx=>?_⟩
   ·rw [List.forIn_cons]
    simp only [hb,Bool.false_eq_true,if_false,pure_bind]
    exact e
   ·rcases List.mem_cons.mp hx with z | z
    ·cases z;exact absurd rfl hk
    ·exact d x z
theorem lX {β : Type}:∀ {l:List (Str × β)} {x:Str} {c : β},(x,c)∈l -> ∃ c',l.lookup x=some c'
 | (n,d) :: r,x,c,h=>by
  rw [List.lookup_cons]
  cases e:x==n with
  | true=>exact ⟨d,rfl⟩
  | false=>
   rcases List.mem_cons.mp h with z | z
   ·cases z;simp at e
   ·exact lX z
theorem kJ {scope:Scope} {env:Env} (h:∀ n,(n,NameKind.free)∈scope.names -> ∃ c,env.cells.lookup n=some c) :
  ∃ cl,closureFor scope env=pure cl∧(∀ x c,(x,c)∈cl->env.cells.lookup x=some c) ∧ ∀ x,(x,NameKind.free)∈scope.names -> ∃ c,cl.lookup x=some c:=by
 obtain ⟨cl,e,a,_,d⟩:=nQ scope.names [] h
 refine ⟨cl,?_,fun x c hx=>?_,fun x hx=>?_⟩
 ·unfold closureFor
  exact (congrArg (fun m=>m >>= fun r=>pure r) e).trans (pure_bind _ _)
 ·rcases a x c hx with z | z
  ·cases z
  ·exact z
 ·obtain ⟨c,hc⟩:=d x hx
  exact lX hc
theorem cW:∀ (names:List (Str×NameKind)) (n:Nat) (acc:List (Str×Addr)) (x:Str) (c:Addr),(cellsFrom n names acc).lookup x=some c ->
  (acc.lookup x=some c∧(x,NameKind.cell) ∉ names)∨(n<=c∧(x,NameKind.cell)∈names)
 | [],n,acc,x,c,h=>.inl ⟨h,by simp⟩
 | (y,k) :: r,n,acc,x,c,h=>by
  unfold cellsFrom at h
  split at h
  ·rename_i hk
   have hk':k=NameKind.cell:=by simpa using hk
   rcases cW r (n+1) ((y,n) :: acc) x c h with ⟨h1,h2⟩ | ⟨h1,h2⟩
   ·rw [List.lookup_cons] at h1
    cases e:x==y with
    | true=>
     rw [e] at h1
     cases h1
     exact .inr ⟨Nat.le_refl _,by rw [beq_iff_eq.mp e,hk'];exact List.mem_cons_self⟩
    | false=>
     rw [e] at h1
     refine .inl ⟨h1,fun m=>?_⟩
     rcases List.mem_cons.mp m with z | z
     ·cases z;simp at e
     ·exact h2 z
   ·exact .inr ⟨by omega,List.mem_cons_of_mem _ h2⟩
  ·rename_i hk
   rcases cW r n acc x c h with ⟨h1,h2⟩ | ⟨h1,h2⟩
   ·refine .inl ⟨h1,fun m=>?_⟩
    rcases List.mem_cons.mp m with z | z
    ·cases z;simp at hk
    ·exact h2 z
   ·exact .inr ⟨h1,List.mem_cons_of_mem _ h2⟩
theorem iY {lo:Nat}:∀ (names:List (Str×NameKind)) (n:Nat) (acc:List (Str×Addr)),lo<=n->(∀ z∈acc,lo<=z.2->z.2<n)->(∀ z∈acc,∀ z'∈acc,lo<=z.2->z.2=z'.2->z.1=z'.1) ->
  ∀ z∈cellsFrom n names acc,∀ z'∈cellsFrom n names acc,lo<=z.2->z.2=z'.2->z.1=z'.1
 | [],n,acc,_,_,h=>h
 | (y,k) :: r,n,acc,hn,h1,h2=>by
  unfold cellsFrom
  split
  ·refine iY r (n+1) ((y,n) :: acc) (by omega) (fun z hz hl=>?_) fun z hz z' hz' hl e=>?_
   ·rcases List.mem_cons.mp hz with e | hz
    ·rw [e];exact Nat.lt_succ_self _
    ·exact Nat.lt_succ_of_lt (h1 z hz hl)
   ·rcases List.mem_cons.mp hz with e1 | hz
    ·rcases List.mem_cons.mp hz' with e2 | hz'
     ·rw [e1,e2]
     ·have:=h1 z' hz' (by rw [← e];exact hl)
      rw [← e,e1] at this
      exact absurd this (Nat.lt_irrefl _)
    ·rcases List.mem_cons.mp hz' with e2 | hz'
     ·have:=h1 z hz hl
      rw [e,e2] at this
      exact absurd this (Nat.lt_irrefl _)
     ·exact h2 z hz z' hz' hl e
  ·exact iY r n acc hn h1 h2
theorem iZ:∀ (names:List (Str×NameKind)) (h:Heap) (acc:List (Str×Addr)) (x:Str) (c:Addr),(x,c)∈cellsFrom h.objs.size names acc->(x,c)∈acc∨(pushCells h names).IsCell c none
 | [],h,acc,x,c,m=>.inl m
 | (y,k) :: r,h,acc,x,c,m=>by
  unfold cellsFrom at m
  unfold pushCells
  split at m
  ·rename_i hk
   rw [if_pos hk]
   have:=iZ r (h.push { cls:=.type "cell",data:=.cell none }) ((y,h.objs.size) :: acc) x c (by rw [Heap.size_push];exact m)
   rcases this with z | z
   ·rcases List.mem_cons.mp z with e | z
    ·cases e
     exact .inr ⟨_,pushCells_keeps r _ _ _ (Heap.get?_push_size _ rfl),rfl⟩
    ·exact .inl z
   ·exact .inr z
  ·rename_i hk
   rw [if_neg hk]
   exact iZ r h acc x c m
theorem dq {α : Type}:∀ {l:List (Str × α)} {x:Str} {k : α},(l.map (·.1)).Nodup->(x,k)∈l->l.lookup x=some k
 | (y,k') :: r,x,k,nd,m=>by
  rw [List.map_cons] at nd
  obtain ⟨h1,h2⟩:=List.nodup_cons.mp nd
  rw [List.lookup_cons]
  rcases List.mem_cons.mp m with e | m
  ·cases e;simp
  ·have hne:(x==y)=false:=by
    cases e:x==y with
    | false=>rfl
    | true=>rw [beq_iff_eq.mp e] at m;exact absurd (List.mem_map.mpr ⟨_,m,rfl⟩) h1
   rw [hne];exact dq h2 m
theorem jX {M:Model} {A:Around} {E:Value->Shared->Prop} {s:Shared} {scope:Scope} {globals:Addr} {closure:List (Str×Addr)} {qual:Str} {func:Option Addr} {code:Value} {env:Env} {builtins:Addr} {Q:Env->Shared->Prop}
  (hQ:Q (newEnv scope s.heap.objs.size globals (cellsFrom (s.heap.objs.size+1) scope.names closure) qual func code (some env) builtins) { s with heap:=pushCells (s.heap.push { cls:=.type "dict",data:=.dict #[] }) scope.names }) :
  wpAny M A (newFunctionEnv scope globals closure [] qual func code (some env) builtins) Q E s:=by
 simp only [newFunctionEnv,Option.isSome_some,if_true]
 refine wpAny_bind (wpAny_alloc ?_)
 refine wpAny_bind (wpAny_layCells _ (fun name kind cells=>by cases hkc:kind==NameKind.cell <;> simp [hkc]) _ _ _ _ ?_)
 rw [show ({ s with heap:=s.heap.push { cls:=.type "dict",data:=.dict #[] } }:Shared).heap.objs.size=s.heap.objs.size+1 from Heap.size_push ..]
 rw [List.forIn_nil]
 exact wpAny_bind (wpAny_pure (wpAny_pure hQ))
noncomputable def rD (scope:Scope) (x:Str):Bool:=scope.names.any fun y=>y.1==x&&y.2==NameKind.cell
theorem qK {scope:Scope} {x:Str}:rD scope x=true↔(x,NameKind.cell)∈scope.names:=by
 unfold rD
 rw [List.any_eq_true]
 constructor
 ·rintro ⟨⟨n,k⟩,hm,h⟩
  rw [Bool.and_eq_true] at h
  obtain rfl:n=x:=beq_iff_eq.mp h.1
  obtain rfl:k=NameKind.cell:=by simpa using h.2
  exact hm
 ·intro hm
  exact ⟨_,hm,by simp⟩
noncomputable abbrev Cx.comp (X:Cx) (scope:Scope) (N:List Str) (cl:List (Str×Addr)) (C:Addr) (fp:List Addr) (s₂ : Shared) (H₂ : Hp):Cx where
 prog:=X.prog
 w:=X.w
 K:=X.K
 mg:=X.mg
 base:=X.base
 A:=X.A
 N:=N
 s₀:=s₂
 H₀:=H₂
 env:=compEnvC scope cl C X.env
 outer:=X.stack
 stack:=X.stack
 ex:=fp
 fn:=rD scope
 calm:=X.calm
 pn:=[]
 xe:=fun _ _=>False
noncomputable def bD (X:Cx) (own:List Str) (fr:List Nat):List Str:=own++fr.map fun j=>X.N.getD j ""
noncomputable def gk (own:List Str) (fr:List Nat) (σ : St):St:=own.map (fun _=>none)++fr.map fun j=>(σ[j]?).getD none
structure CScope (X:Cx) (scope:Scope) (own:List Str) (fr:List Nat):Prop where
 kind:scope.kind = .function
 keys:(scope.names.map (·.1)).Nodup
 names:∀ y∈scope.names,y.2 = .local->scope.names.lookup y.1=some .local
 free:∀ n,(n,NameKind.free)∈scope.names->X.env.kindOf n=some .cell∨X.env.kindOf n=some .free
 frs:∀ j∈fr,j<X.N.length∧scope.names.lookup (X.N.getD j "")=some .free
 nd:(bD X own fr).Nodup
section
variable {X:Cx} {pins:List (Addr×Obj)} {σ : St} {H₂ : Hp} {s₂ : Shared} {scope:Scope} {own:List Str} {fr:List Nat} {cl:List (Str×Addr)} {fp:List Addr}
theorem tH {env:Env}:∀ {names:List (Str×NameKind)} {x:Str},
  ((names.map fun (n,k)=>if (k==NameKind.free&&env.scope.kind == .function&&env.kindOf n==some .cell) then (n,NameKind.cell) else (n,k)).lookup x=some .cell ∨
   (names.map fun (n,k)=>if (k==NameKind.free&&env.scope.kind == .function&&env.kindOf n==some .cell) then (n,NameKind.cell) else (n,k)).lookup x=some .free) ->
  (x,NameKind.free)∈names∨(x,NameKind.cell)∈names
 | [],x,h=>by simp at h
 | (n,k) :: r,x,h=>by
  have ih:=@tH env r x
  simp only [List.map_cons] at h
  by_cases hcond:(k==NameKind.free&&env.scope.kind == .function&&env.kindOf n==some .cell)=true
  ·have hk:k=NameKind.free:=by
    rw [Bool.and_eq_true,Bool.and_eq_true] at hcond
    exact beq_iff_eq.mp hcond.1.1
   rw [if_pos hcond] at h
   simp only [List.lookup_cons] at h
   cases e:x==n with
   | true=>rw [beq_iff_eq.mp e,hk];exact .inl List.mem_cons_self
   | false=>rw [e] at h;exact (ih h).imp (List.mem_cons_of_mem _) (List.mem_cons_of_mem _)
  ·rw [if_neg hcond] at h
   simp only [List.lookup_cons] at h
   cases e:x==n with
   | true=>
    rw [e] at h
    rcases h with h | h
    ·have:k = .cell:=Option.some.inj h
     rw [beq_iff_eq.mp e,this];exact .inr List.mem_cons_self
    ·have:k = .free:=Option.some.inj h
     rw [beq_iff_eq.mp e,this];exact .inl List.mem_cons_self
   | false=>rw [e] at h;exact (ih h).imp (List.mem_cons_of_mem _) (List.mem_cons_of_mem _)
theorem pD {env:Env}:∀ {names:List (Str×NameKind)} {x:Str},names.lookup x=some .free ->
  (names.map fun (n,k)=>if (k==NameKind.free&&env.scope.kind == .function&&env.kindOf n==some .cell) then (n,NameKind.cell) else (n,k)).lookup x=some .cell ∨
  (names.map fun (n,k)=>if (k==NameKind.free&&env.scope.kind == .function&&env.kindOf n==some .cell) then (n,NameKind.cell) else (n,k)).lookup x=some .free
 | [],x,h=>by simp at h
 | (n,k) :: r,x,h=>by
  have ih:=@pD env r x
  simp only [List.map_cons]
  by_cases hcond:(k==NameKind.free&&env.scope.kind == .function&&env.kindOf n==some .cell)=true
  ·rw [if_pos hcond]
   simp only [List.lookup_cons] at h ⊢
   cases e:x==n with
   | true=>exact .inl rfl
   | false=>rw [e] at h;exact ih h
  ·rw [if_neg hcond]
   simp only [List.lookup_cons] at h ⊢
   cases e:x==n with
   | true=>rw [e] at h;exact .inr h
   | false=>rw [e] at h;exact ih h
theorem HOk.adopt {P:Program} {w:World} {H:Hp} {h:Heap} {a:Addr} {o:HO} (x:HOk P w H h) (hn:H a=none) (new:fP P w (upd H a o) h a o):HOk P w (upd H a o) h:=fun b u e=>by
 by_cases hb:b=a
 ·subst hb
  rw [cJ] at e
  cases e
  exact new
 ·rw [bf hb] at e
  exact (x b u e).stay (fun c v _ q=>q) (fun c q=>(bf (bI q hn)).trans q) fun c xs q=>(bf (bI q hn)).trans q
structure CellsAt (X:Cx) (scope:Scope) (cs:List (Str×Addr)) (C:Addr):Prop where
 old:∀ x c,cs.lookup x=some c->X.env.cells.lookup x=some c∨C<c
 has:∀ x,((x,NameKind.free)∈scope.names∨(x,NameKind.cell)∈scope.names) -> ∃ c,cs.lookup x=some c
 fre:∀ x,(x,NameKind.free)∈scope.names -> ∃ c,cs.lookup x=some c∧X.env.cells.lookup x=some c
 cab:∀ x c,rD scope x=true->cs.lookup x=some c->C<c
 inj:∀ x y c,C<c->cs.lookup x=some c->cs.lookup y=some c->x=y
theorem KH {C:Addr} (I:Inv X pins σ H₂ s₂) (S:CScope X scope own fr) (cs:CellsAt X scope cl C)
  (f:∀ b∈fp,oG X pins H₂ b) (ho:∀ b∈fp,b<s₂.heap.objs.size) (hC:s₂.heap.objs.size<=C):(X.comp scope (bD X own fr) cl C fp s₂ H₂).Ok where
 mod:=I.ok.mod
 kind:=S.kind
 glob:=I.ok.glob
 blt:=I.ok.blt
 above:=hC
 inj:=fun x y c e1 e2=>by
  by_cases hc:C<c
  ·exact cs.inj x y c hc e1 e2
  ·exact I.ok.inj x y c ((cs.old x c e1).resolve_right hc) ((cs.old y c e2).resolve_right hc)
 has:=fun x hx=>cs.has x (tH hx)
 cab:=fun x c h e=>Nat.le_of_lt (Nat.lt_of_le_of_lt hC (cs.cab x c h e))
 hd:=I.ok.hd
 frames:=I.ok.frames
 stk:=.inl rfl
 exf:=fun b hb=>⟨Nat.ne_of_lt (Nat.lt_of_lt_of_le (ho b hb) hC),fun x c e=>by
  rcases cs.old x c e with z | z
  ·exact (f b hb).2.2.2.2.1 x c z
  ·exact Nat.ne_of_gt (Nat.lt_trans (Nat.lt_of_lt_of_le (ho b hb) hC) z)⟩
 bs:=I.bs
 bsz:=Nat.le_trans I.ok.bsz I.sz
 noex:=fun b o e hb=>by
  rcases (f b hb).2.2.2.1 with z | z
  ·exact I.ok.noex b o e z
  ·exact absurd (Nat.lt_of_lt_of_le (Heap.lt_size e) (Nat.le_trans I.ok.bsz z)) (Nat.lt_irrefl _)
 exfs:=fun b hb z=>(List.mem_cons.mp (I.stkSub b z)).elim (f b hb).2.1 (f b hb).2.2.1
 funs:=I.stack
 frf:=I.stkFree
theorem rO {C:Addr} {h4:Heap} {tk:Nat} {m:Str->Option Value} (I:Inv X pins σ H₂ s₂) (S:CScope X scope own fr) (cs:CellsAt X scope cl C) (hnew:∀ x c,cl.lookup x=some c->C<c->h4.IsCell c none)
  (f:∀ b∈fp,oG X pins H₂ b) (ho:∀ b∈fp,b<s₂.heap.objs.size) (hC:s₂.heap.objs.size<=C) (hn:h4.Ns C m) (old:∀ b o,s₂.heap.get? b=some o->h4.get? b=some o) :
  Inv (X.comp scope (bD X own fr) cl C fp s₂ H₂) [] (gk own fr σ) H₂ { s₂ with heap:=h4,toks:=tk } where
 ok:=KH I S cs f ho hC
 os:=rfl
 bare:=I.bare
 base:=Un.kept old
 loc:=by
  refine ⟨m,hn,fun i x v e1 e2 e3=>?_⟩
  have e1':(own++fr.map fun j=>X.N.getD j "")[i]? = some x:=e1
  have e2':(own.map (fun _=>(none:Option V))++fr.map fun j=>(σ[j]?).getD none)[i]? = some (some v):=e2
  by_cases hi:i<own.length
  ·rw [List.getElem?_append_left (by simpa using hi),List.getElem?_map] at e2'
   cases q:own[i]? with
   | none=>rw [q] at e2';cases e2'
   | some y=>rw [q] at e2';cases e2'
  ·have hi':own.length<=i:=Nat.not_lt.mp hi
   rw [List.getElem?_append_right hi',List.getElem?_map] at e1'
   rw [List.getElem?_append_right (by simpa using hi'),List.getElem?_map,List.length_map] at e2'
   cases q:fr[i - own.length]? with
   | none=>rw [q] at e1';cases e1'
   | some j=>
    rw [q] at e1' e2'
    have hx:X.N.getD j "" = x:=Option.some.inj e1'
    have hv:(σ[j]?).getD none=some v:=Option.some.inj e2'
    obtain ⟨hj,hl⟩:=S.frs j (List.mem_of_getElem? q)
    have hN:X.N[j]? = some x:=by
     rw [← hx,List.getD_eq_getElem?_getD,List.getElem?_eq_getElem hj];rfl
    have hσ : σ[j]? = some (some v):=by
     cases z : σ[j]? with
     | none=>rw [z] at hv;cases hv
     | some w=>rw [z] at hv;rw [show w=some v from hv]
    rw [hx] at hl
    have hfree:=PySem.mem_of_lookup hl
    have hk:=S.free x hfree
    obtain ⟨m',hm',hl'⟩:=I.loc
    obtain ⟨u,ru,lk⟩:=hl' j x v hN hσ (.inr hk)
    refine ⟨u,ru,?_⟩
    rcases lk with ⟨k1,_⟩ | ⟨_,c,hc,o,hoc,hd⟩
    ·exfalso
     rcases hk with z | z
     ·rw [z] at k1;cases k1
     ·rw [z] at k1;cases k1
    ·obtain ⟨c',hc',this⟩:=cs.fre x hfree
     rw [hc] at this
     cases this
     exact .inr ⟨pD hl,c,hc',o,old _ _ hoc,hd⟩
 cell:=fun x c e=>by
  rcases cs.old x c e with z | z
  ·obtain ⟨v,o,hoc,hd⟩:=I.cell x c z
   exact ⟨v,o,old _ _ hoc,hd⟩
  ·exact ⟨none,hnew x c e z⟩
 free:=I.hok.fresh hC
 freeC:=fun x c e=>by
  rcases cs.old x c e with z | z
  ·exact I.freeC x c z
  ·exact I.hok.fresh (Nat.le_trans hC (Nat.le_of_lt z))
 pin:=fun p hp=>absurd (show p∈([]:List (Addr×Obj)) from hp) (by simp)
 hok:=I.hok.kept old
 len:=by
  show (own.map (fun _=>(none:Option V))++fr.map fun j=>(σ[j]?).getD none).length=(own++fr.map fun j=>X.N.getD j "").length
  simp
end
noncomputable def PTs (X:Cx) (ifs:List Expr) (t:TT):Prop:=
 ∀ (pins:List (Addr×Obj)) (s:Shared) (σ : St) (H:Hp) (Q:Bool->Hp->Prop),Inv X pins σ H s->t σ H Q->wpAny (model X.prog X.w) X.A (Eg ifs X.env) (TP X pins σ Q) X.xe s
noncomputable def Oo:TT:=fun _ H Q=>Q true H
theorem Nu {X:Cx}:PTs X [] Oo:=fun _ _ _ H _ I h=>wpAny_tests_nil ⟨H,I,h⟩
section
variable {X:Cx} {pins:List (Addr×Obj)} {σ : St} {H₂ : Hp} {s₂ : Shared} {scope:Scope} {own:List Str} {fr:List Nat} {cl:List (Str×Addr)} {fp:List Addr}
 {tg elt iter:Expr} {ifs:List Expr} {pos:Pos} {J:It} {it:Addr} {tn:Nat->Heap->Prop} {g:TG} {tt:TT} {te:TE} {RR:Value->Addr->Result->Shared->Prop} {E:Value->Shared->Prop} {Fin:List V->Hp->Prop}
theorem uX (I2:Inv X pins σ H₂ s₂) (hc:X.calm=true) (S:CScope X scope own fr) (h1:∀ x c,(x,c)∈cl->X.env.cells.lookup x=some c) (h2:∀ x,(x,NameKind.free)∈scope.names -> ∃ c,cl.lookup x=some c)
  (T:Turn X.prog X.w X.K tg J fp it tn) (st2:tn 0 s₂.heap) (f2:∀ b∈fp,oG X pins H₂ b)
  (hg:∀ cl C,PG (X.comp scope (bD X own fr) cl C fp s₂ H₂) tg g) (ht:∀ cl C,PTs (X.comp scope (bD X own fr) cl C fp s₂ H₂) ifs tt) (he:∀ cl C,PE (X.comp scope (bD X own fr) cl C fp s₂ H₂) elt te)
  (W:Nat->Nat->List V->St->Hp->Prop) (m0:Nat) (w0:W 0 m0 [] (gk own fr σ) H₂)
  (turn:∀ i m ys σ' H',W i m ys σ' H'->(J.stop i H'∧Fin ys H')∨(J.go i H'∧ys.length<sizeLine ∧ ∀ x H3,J.yld i H' x H3->g x σ' H3 fun σ4 H4=>tt σ4 H4 fun b H5=>
   if b=true then te σ4 H5 fun y H6=>∃ m',m'<m∧W (i+1) m' (ys++[y]) σ4 H6 else ∃ m',m'<m∧W (i+1) m' ys σ4 H5))
  (hR:∀ D C s' H' ys m,Inv X pins σ (upd H' D (.lst ys)) s'->s'.heap.Ns C m->oG X pins (upd H' D (.lst ys)) C->H' D=none->Fin ys H'->RR (.ref D) C (.ok .next) s') :
  wpAny (model X.prog X.w) X.A (newList []) (fun acc s₃ => wpAny (model X.prog X.w) X.A (newFunctionEnv scope X.env.globals cl [] X.env.qual none .none (some X.env)) (fun cenv s₄ =>
   codeAny (model X.prog X.w) X.A (.compStart (.ListComp elt [⟨tg,iter,ifs,0⟩] scope pos) 0 (.ref it) acc { cenv with scope:=relabel scope X.env }) (RR acc cenv.locals) s₄) E s₃) E s₂:=by
 refine wpAny_newObj_type (jX ?_)
 dsimp only
 generalize eG:s₂.heap.push { cls:=.type "list",dict:=none,data:=.seq ([]:List Value).toArray }=G
 have sG:G.objs.size=s₂.heap.objs.size+1:=by rw [← eG,Heap.size_push]
 have hDC:s₂.heap.objs.size≠G.objs.size:=by rw [sG];exact Nat.ne_of_lt (Nat.lt_succ_self _)
 have hCle:s₂.heap.objs.size<=G.objs.size:=by rw [sG];exact Nat.le_succ _
 have neC:∀ b,b<s₂.heap.objs.size->b≠G.objs.size:=fun b hb=>Nat.ne_of_lt (Nat.lt_of_lt_of_le hb hCle)
 have cellLt:∀ x c,X.env.cells.lookup x=some c->c<s₂.heap.objs.size:=fun x c e=>let ⟨v,q⟩:=I2.cell x c e;q.lt
 have cs:CellsAt X scope (cellsFrom (G.objs.size+1) scope.names cl) G.objs.size:={
  old:=fun x c e=>by
   rcases cW _ _ _ x c e with ⟨z,_⟩ | ⟨z,_⟩
   ·exact .inl (h1 x c (PySem.mem_of_lookup z))
   ·exact .inr z
  has:=fun x hx=>by
   refine Option.isSome_iff_exists.mp (PySem.W.cellsFrom_some scope.names _ cl ?_)
   rcases hx with z | z
   ·obtain ⟨c,hc⟩:=h2 x z
    exact .inr (by rw [hc];rfl)
   ·exact .inl (dq S.keys z)
  fre:=fun x hx=>by
   obtain ⟨c,hc⟩:=h2 x hx
   obtain ⟨c',hc'⟩:=Option.isSome_iff_exists.mp (PySem.W.cellsFrom_some scope.names (G.objs.size+1) cl (.inr (by rw [hc];rfl)) (x:=x))
   rcases cW _ _ _ x c' hc' with ⟨z,_⟩ | ⟨_,z⟩
   ·exact ⟨c',hc',h1 x c' (PySem.mem_of_lookup z)⟩
   ·have:=dq S.keys z
    rw [dq S.keys hx] at this
    cases this
  cab:=fun x c ho e=>by
   rcases cW _ _ _ x c e with ⟨_,z⟩ | ⟨z,_⟩
   ·exact absurd (qK.mp ho) z
   ·exact z
  inj:=fun x y c hc e1 e2=>by
   have low:∀ z∈cl,¬ G.objs.size+1<=z.2:=fun z hz hl=>by
    have:=cellLt z.1 z.2 (h1 z.1 z.2 hz)
    exact absurd (Nat.lt_of_lt_of_le this hCle) (Nat.not_lt.mpr (Nat.le_of_succ_le hl))
   exact iY (lo:=G.objs.size+1) scope.names _ cl (Nat.le_refl _) (fun z hz hl=>absurd hl (low z hz)) (fun z hz z' _ hl _=>absurd hl (low z hz)) (x,c) (PySem.mem_of_lookup e1) (y,c) (PySem.mem_of_lookup e2) hc rfl }
 generalize e4:pushCells (G.push { cls:=.type "dict",data:=.dict #[] }) scope.names=h4
 have up:∀ b o,G.get? b=some o->h4.get? b=some o:=fun b o e=>by rw [← e4];exact pushCells_keeps _ _ _ _ (Heap.get?_push_of_some _ e)
 have hn4:h4.Ns G.objs.size (fun _=>none):=by rw [← e4];exact (Heap.Ns.new G (.type "dict")).keeps (pushCells_keeps _ _)
 have hnew:∀ x c,(cellsFrom (G.objs.size+1) scope.names cl).lookup x=some c->G.objs.size<c->h4.IsCell c none:=fun x c e hc=>by
  rcases iZ scope.names (G.push { cls:=.type "dict",data:=.dict #[] }) cl x c (by rw [Heap.size_push];exact PySem.mem_of_lookup e) with z | z
  ·have:=cellLt x c (h1 x c z)
   exact absurd (Nat.lt_trans (Nat.lt_of_lt_of_le this hCle) hc) (Nat.lt_irrefl _)
  ·rw [← e4];exact z
 have old:∀ b o,s₂.heap.get? b=some o->h4.get? b=some o:=fun b o e=>up b o (by rw [← eG];exact Heap.get?_push_of_some _ e)
 have hD4:h4.get? s₂.heap.objs.size=some { cls:=.type "list",data:=.seq ([]:List Value).toArray 0 }:=up _ _ (by rw [← eG];exact Heap.get?_push_size _ rfl)
 generalize ecs:cellsFrom (G.objs.size+1) scope.names cl=cl' at cs hnew ⊢
 have ho:∀ b∈fp,b<s₂.heap.objs.size:=fun b hb=>let ⟨_,e,_⟩:=T.obj 0 _ st2 b hb;Heap.lt_size e
 have nD:s₂.heap.objs.size ∉ fp:=fun z=>Nat.lt_irrefl _ (ho _ z)
 have nf:∀ {b:Addr},s₂.heap.objs.size<=b->b ∉ frs X.stack:=fun {b} hb z=>by
  rcases List.mem_cons.mp (I2.stkSub b z) with e | e
  ·exact absurd (Nat.lt_of_lt_of_le I2.lt (by rw [← e];exact hb)) (Nat.lt_irrefl _)
  ·exact I2.nofs hb e
 have cellNe:∀ x c,cl'.lookup x=some c->c≠s₂.heap.objs.size:=fun x c e z=>by
  rcases cs.old x c e with q | q
  ·exact Nat.ne_of_lt (cellLt x c q) z
  ·exact Nat.lt_irrefl _ (Nat.lt_of_lt_of_le q (by rw [z];exact hCle))
 have stat:∀ {H':Hp} {o:Obj},(∀ b∈fp,H' b=none) -> ∀ b∈fp,oG (X.comp scope (bD X own fr) cl' G.objs.size fp s₂ H₂) [(s₂.heap.objs.size,o)] H' b:=fun {H' o} hn b hb=>
  ⟨hn b hb,neC b (ho b hb),fun z=>(List.mem_cons.mp (I2.stkSub b z)).elim (f2 b hb).2.1 (f2 b hb).2.2.1,.inl hb,fun x c e=>(by
   rcases cs.old x c e with q | q
   ·exact (f2 b hb).2.2.2.2.1 x c q
   ·exact fun z=>Nat.lt_irrefl _ (Nat.lt_trans (Nat.lt_of_lt_of_le (ho b hb) hCle) (by rw [z] at q;exact q))),fun p hp z=>by
   have e:p=(s₂.heap.objs.size,o):=by simpa using hp
   subst e
   exact nD (by rw [show s₂.heap.objs.size=b from z];exact hb)⟩
 have I4:=rO (cl:=cl') (tk:=s₂.toks) I2 S cs hnew f2 ho hCle hn4 old
 have loop:codeAny (model X.prog X.w) X.A (.compLoop (.ListComp elt [⟨tg,iter,ifs,0⟩] scope pos) 0 (.ref it) (.ref s₂.heap.objs.size) (compEnvC scope cl' G.objs.size X.env)) (RR (.ref s₂.heap.objs.size) G.objs.size)
   { s₂ with heap:=h4,toks:=s₂.toks }:=by
  refine yr (fun n s'=>∃ i ys its k σ' H',Inv (X.comp scope (bD X own fr) cl' G.objs.size fp s₂ H₂) [] σ' H' s'∧tn i s'.heap∧(∀ b∈fp,H' b=none) ∧
   s'.heap.get? s₂.heap.objs.size=some { cls:=.type "list",data:=.seq (its:List Value).toArray k }∧Vals ys its∧H' s₂.heap.objs.size=none∧ys.length<=sizeLine∧W i n ys σ' H') ?_ m0
   ⟨0,[],[],0,gk own fr σ,H₂,I4,T.keep _ _ _ st2 (fun b _ o e=>old b o e),fun b hb=>(f2 b hb).1,hD4,.nil,I2.hok.fresh (Nat.le_refl _),Nat.zero_le _,w0⟩
  rintro n s5 ⟨i,ys,its,k,σ5,H5,I5,st5,fr5,hD5,rv5,hn5,hz5,w5⟩
  have pinD:Inv (X.comp scope (bD X own fr) cl' G.objs.size fp s₂ H₂) [(s₂.heap.objs.size,{ cls:=.type "list",data:=.seq its.toArray k })] σ5 H5 s5:=I5.pins_of fun p hp=>by
   have e:p=(s₂.heap.objs.size,{ cls:=.type "list",data:=.seq its.toArray k }):=by simpa using hp
   subst e
   exact ⟨hD5,hn5,hDC,nf (Nat.le_refl _),fun v z=>nomatch z⟩
  rcases turn i n ys σ5 H5 w5 with ⟨stop,fin⟩ | ⟨go,hzl,step⟩
  ·refine thn (T.done (X.comp scope (bD X own fr) cl' G.objs.size fp s₂ H₂) rfl rfl rfl hc i _ s5 σ5 H5 (fun _ _=>False) pinD (stat fr5) st5 stop) fun r s6 hh7=>?_
   obtain ⟨hr,I6⟩:=hh7
   subst hr
   have hD6:=(I6.pin _ (List.mem_append_right _ List.mem_cons_self)).1
   obtain ⟨m6,hn6,_⟩:=I6.loc
   have hk6:HOk X.prog X.w (upd H5 s₂.heap.objs.size (.lst ys)) s6.heap:=I6.hok.adopt hn5 ⟨hz5,its,k,rv5,hD6⟩
   have bne:∀ b o,s₂.heap.get? b=some o->b≠s₂.heap.objs.size:=fun b o e=>Nat.ne_of_lt (Heap.lt_size e)
   have tne:∀ b o,H5 b=some o->b≠s₂.heap.objs.size:=fun b o e=>bI e hn5
   have un6:Un (frs X.stack) fp H₂ (upd H5 s₂.heap.objs.size (.lst ys)) s₂.heap s6.heap:=
    ⟨I6.base.keep,I6.base.slot,fun b o e n hx=>by rw [bf (bne b o e)];exact I6.base.free b o e n hx,I6.base.there,
     fun b xs e=>by have z:=I6.base.tups b xs e;rw [bf (tne b _ z)];exact z,fun b o u e=>by have z:=I6.base.frzs b o u e;rw [bf (tne b _ z)];exact z,
     fun b ps e=>by obtain ⟨mo,z⟩:=I6.base.tbls b ps e;exact ⟨mo,by rw [bf (tne b _ z)];exact z⟩⟩
   have J6:Inv X pins σ (upd H5 s₂.heap.objs.size (.lst ys)) s6:=I2.call' I6.os un6 hk6 I6.bare fun b hb=>⟨(f2 b hb).2.2.2.1,(f2 b hb).2.1,(f2 b hb).2.2.2.2.1,(f2 b hb).2.2.2.2.2⟩
   refine hR _ _ s6 H5 ys m6 J6 hn6 ⟨?_,?_,?_,?_,?_,?_⟩ hn5 fin
   ·rw [bf (Ne.symm hDC)];exact I6.free
   ·exact Ne.symm (neC _ I2.lt)
   ·exact I2.nofs hCle
   ·exact .inr (Nat.le_trans I2.sz hCle)
   ·intro x c e z
    obtain ⟨v,q⟩:=I2.cell x c e
    exact absurd (Nat.lt_of_lt_of_le q.lt (by rw [z];exact hCle)) (Nat.lt_irrefl _)
   ·intro p hp z
    exact absurd (Nat.lt_of_lt_of_le (Heap.lt_size (I2.pin p hp).1) (by rw [z];exact hCle)) (Nat.lt_irrefl _)
  ·refine thn (T.item (X.comp scope (bD X own fr) cl' G.objs.size fp s₂ H₂) rfl rfl rfl hc i _ s5 σ5 H5 (fun _ _=>False) pinD (stat fr5) st5 go) fun r s6 hh8=>?_
   obtain ⟨u,hr,h6⟩:=hh8
   subst hr
   refine thn h6 fun _ s7 hh9=>?_
   obtain ⟨x,H7,I7,r7,y7,st7,fr7⟩:=hh9
   have I7':=I7.pinned (stat fr7) (T.obj _ _ st7)
   refine thn (hg _ _ _ s7 σ5 H7 x u _ I7' r7 (step x H7 y7)) fun _ s8 hh10=>?_
   obtain ⟨σ8,H8,I8,q8⟩:=hh10
   refine thn (ht _ _ _ s8 σ8 H8 _ I8 q8) fun ok s9 hh11=>?_
   obtain ⟨H9,I9,q9⟩:=hh11
   have kept:∀ {s':Shared} {σ':St} {H':Hp},Inv (X.comp scope (bD X own fr) cl' G.objs.size fp s₂ H₂) ([(s₂.heap.objs.size,{ cls:=.type "list",data:=.seq its.toArray k })]++qm fp s7.heap) σ' H' s' ->
     tn (i+1) s'.heap∧(∀ b∈fp,H' b=none)∧s'.heap.get? s₂.heap.objs.size=some { cls:=.type "list",data:=.seq its.toArray k }∧H' s₂.heap.objs.size=none:=fun {s' σ' H'} Z=>by
    have zD:=Z.pin (s₂.heap.objs.size,{ cls:=.type "list",data:=.seq its.toArray k }) (List.mem_append_right _ (List.mem_append_left _ List.mem_cons_self))
    refine ⟨T.keep _ _ _ st7 fun b hb o e=>(Z.pin (b,o) (List.mem_append_right _ (List.mem_append_right _ (iQ hb e)))).1,fun b hb=>?_,zD.1,zD.2.1⟩
    obtain ⟨o,e,_⟩:=T.obj _ _ st7 b hb
    exact (Z.pin (b,o) (List.mem_append_right _ (List.mem_append_right _ (iQ hb e)))).2.1
   cases ok with
   | false=>
    obtain ⟨m',hm',w9⟩:=q9
    obtain ⟨z1,z2,z3,z4⟩:=kept I9
    exact ⟨m',hm',i+1,ys,its,k,σ8,H9,I9.pins_of (fun p hp=>nomatch hp),z1,z2,z3,rv5,z4,hz5,w9⟩
   | true=>
    refine thn (he _ _ _ s9 σ8 H9 _ I9 q9) fun v sa hh12=>?_
    obtain ⟨y,Ha,Ia,ra,m',hm',wa⟩:=hh12
    obtain ⟨z1,z2,z3,z4⟩:=kept Ia
    refine append_at (hsz:=by show its.toArray.size<=sizeLine;rw [List.size_toArray,← rv5.length];exact hz5) z3 fun hb sbb hDb=>?_
    have Ib:Inv (X.comp scope (bD X own fr) cl' G.objs.size fp s₂ H₂) [] σ8 Ha { sa with heap:=hb }:=
     (Ia.pins_of (pins':=[]) fun p hp=>nomatch hp).turned (t':=sa.toks) (it:=s₂.heap.objs.size) (fun b o hne e=>(sbb.2 b hne).trans e) z4 hDC (.inr (Nat.le_refl _)) cellNe fun p hp=>nomatch hp
    refine ⟨m',hm',i+1,ys++[y],its++[v],k+1,σ8,Ha,Ib,T.keep _ _ _ z1 fun b hb' o e=>(sbb.2 b fun q=>nD (by rw [← q];exact hb')).trans e,z2,?_,rv5.append (.cons ra .nil),z4,by rw [List.length_append];exact hzl,wa⟩
    rw [← List.push_toArray];exact hDb
 exact codeAny_compStart_list loop (T.self _ 0 _ _ _ (T.keep _ _ _ st2 fun b _ o e=>old b o e) loop)
end
noncomputable def Pa (J:It) (own:List Str) (fr:List Nat) (σ : St) (g:TG) (tt:TT) (te:TE) (Q:VK) (H1:Hp):Prop:=∃ W:Nat->Nat->List V->St->Hp->Prop,
 (∃ m,W 0 m [] (gk own fr σ) H1) ∧ ∀ i m ys σ' H',W i m ys σ' H'->(J.stop i H' ∧ ∀ p,H' p=none->Q (.ref p) (upd H' p (.lst ys))) ∨
  (J.go i H'∧ys.length<sizeLine ∧ ∀ x H3,J.yld i H' x H3->g x σ' H3 fun σ4 H4=>tt σ4 H4 fun b H5=>
   if b=true then te σ4 H5 fun y H6=>∃ m',m'<m∧W (i+1) m' (ys++[y]) σ4 H6 else ∃ m',m'<m∧W (i+1) m' ys σ4 H5)
noncomputable def JS (wi:TI) (own:List Str) (fr:List Nat) (g:TG) (tt:TT) (te:TE):TE:=fun σ H Q=>wi σ H fun J H1=>Pa J own fr σ g tt te Q H1
section
variable {X:Cx} {scope:Scope} {own:List Str} {fr:List Nat} {tg elt iter:Expr} {ifs:List Expr} {pos:Pos} {wi:TI} {g:TG} {tt:TT} {te:TE}
theorem Ng (hc:X.calm=true) (hi:PI X tg iter wi) (S:CScope X scope own fr) (hg:∀ cl C fp s₂ H₂,PG (X.comp scope (bD X own fr) cl C fp s₂ H₂) tg g)
  (ht:∀ cl C fp s₂ H₂,PTs (X.comp scope (bD X own fr) cl C fp s₂ H₂) ifs tt) (he:∀ cl C fp s₂ H₂,PE (X.comp scope (bD X own fr) cl C fp s₂ H₂) elt te)
  (hs:∀ x,foldedSetIterable iter X.env x=pure x:=by intro _;rfl):PE X (.ListComp elt [⟨tg,iter,ifs,0⟩] scope pos) (JS wi own fr g tt te):=by
 intro pins s σ H Q I h
 obtain ⟨cl,hcl,h1,h2⟩:=kJ (scope:=scope) (env:=X.env) fun n hn=>I.ok.has n (S.free n hn)
 rw [eval_ListComp]
 refine wpAny_comprehension_free (use:=none) rfl hs hcl S.kind S.names (thn (hi pins s σ H _ I h) fun v s1 q1=>thn q1 fun itv s2 q2=>?_)
 obtain ⟨it,fp,tn,J,H2,e,I2,T,st2,f2,W,⟨m0,w0⟩,turn⟩:=q2
 subst e
 refine uX (RR:=fun acc C=>compPost (model X.prog X.w) X.A X.xe none (EP X pins σ Q) acc C) (Fin:=fun ys H'=>∀ p,H' p=none->Q (.ref p) (upd H' p (.lst ys)))
  I2 hc S h1 h2 T st2 f2 (fun cl C=>hg cl C fp s2 H2) (fun cl C=>ht cl C fp s2 H2) (fun cl C=>he cl C fp s2 H2) W m0 w0 turn ?_
 intro D C s' H' ys m J' hn fC hD fin
 exact ⟨m,hn,fun h' sb=>⟨.ref D,_,J'.turned (t':=s'.toks) (it:=C) (fun b o hne e=>(sb.2 b hne).trans e) fC.1 fC.2.1 fC.2.2.2.1 fC.2.2.2.2.1 fC.2.2.2.2.2,rfl,fin D hD⟩⟩
theorem Nm {i:Nat} {y:Str} {py spos:Pos} (hN:X.N.Nodup) (hi:X.N[i]? = some y) (hx:Loc X.env.scope y) (hc:X.calm=true) (hit:PI X tg iter wi) (S:CScope X scope own fr)
  (hg:∀ cl C fp s₂ H₂,PG (X.comp scope (bD X own fr) cl C fp s₂ H₂) tg g) (ht:∀ cl C fp s₂ H₂,PTs (X.comp scope (bD X own fr) cl C fp s₂ H₂) ifs tt) (he:∀ cl C fp s₂ H₂,PE (X.comp scope (bD X own fr) cl C fp s₂ H₂) elt te)
  (hsw:swapsWith (.ListComp elt [⟨tg,iter,ifs,0⟩] scope pos) (some (.Name y py)) spos.line X.env=pure true:=by rfl)
  (hs:∀ x,foldedSetIterable iter X.env x=pure x:=by intro _;rfl) (hf:X.fn y=true∨X.env.scope.names.lookup y=some .local:=by first | exact .inl rfl | exact .inr rfl | assumption) :
  PS X (.Assign [.Name y py] (.ListComp elt [⟨tg,iter,ifs,0⟩] scope pos) spos) (Ol (JS wi own fr g tt te) (Cw i)):=by
 intro pins s σ H D I h
 obtain ⟨cl,hcl,h1,h2⟩:=kJ (scope:=scope) (env:=X.env) fun n hn=>I.ok.has n (S.free n hn)
 rw [exec_Assign_Name_used _ _ _ _ hsw]
 refine wpAny_bind (wpAny_standAt (wpAny_bind ?_))
 show wpAny _ X.A (do let _ ← comprehension (.ListComp elt [⟨tg,iter,ifs,0⟩] scope pos) scope X.env _ (newList []) false (eval iter X.env) (some (assign (.Name y py) X.env))) _ _ s
 refine wpAny_bind (wpAny_mono (wpAny_comprehension_free (use:=some (assign (.Name y py) X.env)) (Q:=fun _ s'=>SP X pins D .next s') rfl hs hcl S.kind S.names
  (thn (hit pins s σ H _ I h) fun v s1 q1=>thn q1 fun itv s2 q2=>?_)) (fun _ s' q=>wpAny_pure (wpAny_pure q)) fun _ _ z=>z)
 obtain ⟨it,fp,tn,J,H2,e,I2,T,st2,f2,W,⟨m0,w0⟩,turn⟩:=q2
 subst e
 refine uX (RR:=fun acc C=>compPost (model X.prog X.w) X.A X.xe (some (assign (.Name y py) X.env)) (fun _ s'=>SP X pins D .next s') acc C)
  (Fin:=fun ys H'=>∀ p,H' p=none->D.nx (σ.set i (some (.ref p))) (upd H' p (.lst ys)))
  I2 hc S h1 h2 T st2 f2 (fun cl C=>hg cl C fp s2 H2) (fun cl C=>ht cl C fp s2 H2) (fun cl C=>he cl C fp s2 H2) W m0 w0 turn ?_
 intro B C s' H' ys m J' hn fC hB fin
 refine wpAny_assign_Name (qz (v:=.ref B) J' hN hi hx rfl (fun s'' I'' sb=>?_) hf)
 obtain ⟨a,sba,ha⟩:=sb
 have nca:C≠a:=by
  rcases ha with z | z
  ·rw [z];exact fC.2.1
  ·exact Ne.symm (fC.2.2.2.2.1 _ a z)
 exact ⟨m,hn.sameBut sba nca,fun h' sb'=>⟨_,_,I''.turned (t':=s''.toks) (it:=C) (fun b o hne e=>(sb'.2 b hne).trans e) fC.1 fC.2.1 fC.2.2.2.1 fC.2.2.2.2.1 fC.2.2.2.2.2,fin B hB⟩⟩
end
section
variable {own:List Str} {fr:List Nat} {g:TG} {te:TE} {σ : St} {Q:VK}
end
section
variable {X:Cx} (K:PySem.W.Frag) (e:X.K=K)
include e
end
noncomputable def Known (K:PySem.W.Frag) (mg:Str->Option Value) (x:Str) (st:Stmt) (ps:List Str):Prop:=∃ f fd,Fun K x x st f fd∧Binds K fd ps []∧mg x=some (.ref f)
noncomputable def Prm (P:Program) (w:World) (K:PySem.W.Frag) (mg:Str->Option Value) (base:Heap) (x:Str) (k:Nat) (ps:List Str) (sp:Sp):Prop:=
 ∃ f fd,FnOk P w K mg base CX0 k f fd ps sp∧Binds K fd ps []∧mg x=some (.ref f)∧PySem.W.keepIn K (.ref f)=true
section
variable {P:Program} {w:World} {K:PySem.W.Frag} {mg:Str->Option Value} {base:Heap}
theorem bc {x:Str} {st:Stmt} {ps:List Str} {h:Heap} (X:K.In h) (G:h.Ns mainGlobals mg) {f:Addr} {oc:Value} {od an:Option Addr} {osl:Array (Option Value)} {kV doc pm cdv ct:Value}
  (a:PySem.W.nsIn K mainGlobals x=some (some (.ref f))) (l:K.lookup f=some ⟨oc,od,.func (PySem.W.fnOf x x (jy st) (fY st) (aF st) .none kV doc pm an cdv ct),osl⟩)
  (c:PySem.W.codeIn K cdv x=true) (k:PySem.W.keepIn K (.ref f)=true)
  (hb:∀ (kV doc pm:Value) (an:Option Addr) (cdv ct:Value) (us:List Value),us.length=ps.length->bindArgs (PySem.W.fnOf x x (jy st) (fY st) (aF st) .none kV doc pm an cdv ct) ⟨us,[]⟩=pure (ps.zip us)):Known K mg x st ps:=
 ⟨f,_,Ay l c k,(Ay l c k).binds hb,PySem.W.mg_of X G a⟩
end
section
variable {X:Cx} {pins:List (Addr×Obj)} {σ : St} {H:Hp} {s:Shared}
end
inductive D where
 | non | bl (b:Bool) | int (i:Int) | str (x:Str) | tup (ds:List D) | lst (o:Bool) (ds:List D)
 | scr (ns:List Int)
 | ty (n:String)
 | xc (x:Str) (a:Addr)
 | fn (x:Str)
 | dct (o:Bool) (ks:List Key) (ds:List D)
mutual
noncomputable def D.fz:D->D
 | .non=>.non
 | .bl b=>.bl b
 | .int i=>.int i
 | .str x=>.str x
 | .scr ns=>.scr ns
 | .ty n=>.ty n
 | .xc x a=>.xc x a
 | .fn x=>.fn x
 | .tup ds=>.tup (D.fzs ds)
 | .lst _ ds=>.lst false (D.fzs ds)
 | .dct _ ks ds=>.dct false ks (D.fzs ds)
noncomputable def D.fzs:List D->List D
 | []=>[]
 | d :: ds=>d.fz :: D.fzs ds
end
mutual
noncomputable def D.clean:D->Bool
 | .non=>true
 | .bl _=>true
 | .int _=>true
 | .str _=>true
 | .scr _=>true
 | .ty _=>true
 | .xc _ _=>true
 | .fn _=>true
 | .tup ds=>D.cleans ds
 | .lst o ds=>o&&D.cleans ds
 | .dct o _ ds=>o&&D.cleans ds
noncomputable def D.cleans:List D->Bool
 | []=>true
 | d :: ds=>d.clean&&D.cleans ds
end
mutual
noncomputable def D.dat:D->PyData
 | .non=>.none
 | .bl b=>.bool b
 | .int i=>.int i
 | .str x=>.str x
 | .scr ns=>.list (ns.map PyData.int)
 | .ty _=>.dict []
 | .xc _ _=>.dict []
 | .fn _=>.dict []
 | .tup ds=>.tuple (D.dats ds)
 | .lst _ ds=>.list (D.dats ds)
 | .dct _ _ _=>.dict []
noncomputable def D.dats:List D->List PyData
 | []=>[]
 | d :: ds=>d.dat :: D.dats ds
end
theorem D.fzs_eq:∀ ds:List D,D.fzs ds=ds.map D.fz
 | []=>by simp [D.fzs]
 | d :: ds=>by simp [D.fzs,D.fzs_eq ds]
theorem D.cleans_eq:∀ ds:List D,D.cleans ds=ds.all D.clean
 | []=>by simp [D.cleans]
 | d :: ds=>by simp [D.cleans,D.cleans_eq ds]
mutual
noncomputable def D.sh:D->Bool
 | .non=>true
 | .bl _=>true
 | .int _=>true
 | .str _=>true
 | .scr _=>true
 | .ty _=>true
 | .xc _ _=>true
 | .fn _=>true
 | .tup ds=>D.shs ds
 | .lst o ds=>!o&&D.shs ds
 | .dct o _ ds=>!o&&D.shs ds
noncomputable def D.shs:List D->Bool
 | []=>true
 | d :: ds=>d.sh&&D.shs ds
end
theorem D.shs_eq:∀ ds:List D,D.shs ds=ds.all D.sh
 | []=>by simp [D.shs]
 | d :: ds=>by simp [D.shs,D.shs_eq ds]
mutual
theorem D.sh_fz:∀ d:D,d.sh=true->d.fz=d
 | .non,_=>by rw [D.fz]
 | .bl _,_=>by rw [D.fz]
 | .int _,_=>by rw [D.fz]
 | .str _,_=>by rw [D.fz]
 | .scr _,_=>by rw [D.fz]
 | .ty _,_=>by rw [D.fz]
 | .xc _ _,_=>by rw [D.fz]
 | .fn _,_=>by rw [D.fz]
 | .tup ds,h=>by rw [D.fz,D.shs_fz ds (by rw [D.sh] at h;exact h)]
 | .lst o ds,h=>by
  rw [D.sh,Bool.and_eq_true] at h
  rw [D.fz,D.shs_fz ds h.2]
  cases o with
  | false=>rfl
  | true=>cases h.1
 | .dct o ks ds,h=>by
  rw [D.sh,Bool.and_eq_true] at h
  rw [D.fz,D.shs_fz ds h.2]
  cases o with
  | false=>rfl
  | true=>cases h.1
theorem D.shs_fz:∀ ds:List D,D.shs ds=true->D.fzs ds=ds
 | [],_=>by rw [D.fzs]
 | d :: ds,h=>by
  rw [D.shs,Bool.and_eq_true] at h
  rw [D.fzs,D.sh_fz d h.1,D.shs_fz ds h.2]
end
mutual
theorem D.fz_fz:∀ d:D,d.fz.fz=d.fz
 | .non=>by simp [D.fz]
 | .bl _=>by simp [D.fz]
 | .int _=>by simp [D.fz]
 | .str _=>by simp [D.fz]
 | .scr _=>by simp [D.fz]
 | .ty _=>by simp [D.fz]
 | .xc _ _=>by simp [D.fz]
 | .fn _=>by simp [D.fz]
 | .tup ds=>by simp [D.fz,D.fzs_fzs ds]
 | .lst _ ds=>by simp [D.fz,D.fzs_fzs ds]
 | .dct _ ks ds=>by simp [D.fz,D.fzs_fzs ds]
theorem D.fzs_fzs:∀ ds:List D,D.fzs (D.fzs ds)=D.fzs ds
 | []=>by simp [D.fzs]
 | d :: ds=>by simp [D.fzs,D.fz_fz d,D.fzs_fzs ds]
end
noncomputable def qF (K:PySem.W.Frag) (H:Hp) (a:Addr) (ns:List Int):Prop:=
 (∃ o,H a=some (.frz o (.lst (ns.map V.int)))) ∨
  ∃ (o:Obj) (its:Array Value) (n:Nat),K.lookup a=some o∧o.cls = .type "list" ∧ o.dict=none∧o.data = .seq its n∧its.size<=sizeLine∧Vals (ns.map V.int) its.toList
noncomputable def Uc (C:Addr) (o:Obj):Prop:=o.cls = .ref C ∧ ∃ vs:Array Value,o.data = .fields vs∧vs[2]? = some .none
theorem qF.sq {K:PySem.W.Frag} {H:Hp} {a:Addr} {ns:List Int} (h:qF K H a ns):SqL K H a (ns.map V.int):=by
 rcases h with ⟨o,e⟩ | h
 ·exact .inl (.inr ⟨o,e⟩)
 ·exact .inr h
section
variable (K:PySem.W.Frag) (F:Addr->Prop) (H:Hp)
mutual
inductive Rp:V->D->List Addr->Prop where
 | non:Rp .non .non []
 | bl (b:Bool):Rp (.bl b) (.bl b) []
 | int (i:Int):Rp (.int i) (.int i) []
 | str (x:Str):Rp (.str x) (.str x) []
 | ty (n:String):Rp (.ty n) (.ty n) []
 | xc {a C:Addr} {x:Str} {o:Obj} {u:HO}:PySem.W.nsIn K mainGlobals x=some (some (.ref C))->H a=some (.frz o u)->Uc C o->Rp (.ref a) (.xc x a) []
 | fn {a:Addr} {x:Str}:PySem.W.nsIn K mainGlobals x=some (some (.ref a))->Rp (.ref a) (.fn x) []
 | tup {a:Addr} {vs:List V} {ds:List D} {L:List Addr}:H a=some (.tup vs)->Rps vs ds L->Rp (.ref a) (.tup ds) L
 | scr {a:Addr} {ns:List Int}:qF K H a ns->Rp (.ref a) (.scr ns) []
 | frz {a:Addr} {vs:List V} {ds:List D}:H a=some (.lst vs)->F a->Rps vs ds []->Rp (.ref a) (.lst false ds) []
 | own {a:Addr} {vs:List V} {ds:List D} {L:List Addr}:H a=some (.lst vs)->Rps vs ds L->Rp (.ref a) (.lst true ds) (a :: L)
 | dfz {a:Addr} {kvs:List (Key×V)} {ds:List D}:H a=some (.dK kvs)->F a->Rps (kvs.map (·.2)) ds []->Rp (.ref a) (.dct false (kvs.map (·.1)) ds) []
 | down {a:Addr} {kvs:List (Key×V)} {ds:List D} {L:List Addr}:H a=some (.dK kvs)->Rps (kvs.map (·.2)) ds L->Rp (.ref a) (.dct true (kvs.map (·.1)) ds) (a :: L)
inductive Rps:List V->List D->List Addr->Prop where
 | nil:Rps [] [] []
 | cons {v:V} {vs:List V} {d:D} {ds:List D} {L M:List Addr}:Rp v d L->Rps vs ds M->Rps (v :: vs) (d :: ds) (L++M)
end
end
section
variable {K:PySem.W.Frag} {F F':Addr->Prop} {H H':Hp}
inductive OL where
 | l (xs:List V) | d (kvs:List (Key×V))
noncomputable def OL.ho:OL->HO
 | .l xs=>.lst xs
 | .d kvs=>.dK kvs
noncomputable def Still:HO->Prop
 | .lst _=>False
 | .dK _=>False
 | .dT _=>False
 | .set _ _=>False
 | .ins _ _ _=>False
 | .ext _=>False
 | _=>True
theorem OL.no {o:OL}:¬ Still o.ho:=by cases o <;> exact id
theorem SqT.keep {a:Addr} {vs:List V} (r:SqT K H a vs) (k:∀ o,H a=some o->Still o->H' a=some o):SqT K H' a vs:=by
 rcases r with r | r
 ·refine .inl ?_
  rcases r with r | ⟨o,r⟩
  ·exact .inl (k _ r trivial)
  ·exact .inr ⟨o,k _ r trivial⟩
 ·exact .inr r
theorem qF.keep {a:Addr} {ns:List Int} (r:qF K H a ns) (k:∀ o,H a=some o->Still o->H' a=some o):qF K H' a ns:=by
 rcases r with ⟨o,r⟩ | r
 ·exact .inl ⟨o,k _ r trivial⟩
 ·exact .inr r
theorem Rp.both {M:V->D->List Addr->Prop} {N:List V->List D->List Addr->Prop}
  (h1:M .non .non []) (h2:∀ b,M (.bl b) (.bl b) []) (h3:∀ i,M (.int i) (.int i) []) (h4:∀ x,M (.str x) (.str x) []) (h5:∀ n,M (.ty n) (.ty n) [])
  (h6:∀ {a C:Addr} {x:Str} {o:Obj} {u:HO},PySem.W.nsIn K mainGlobals x=some (some (.ref C))->H a=some (.frz o u)->Uc C o->M (.ref a) (.xc x a) [])
  (h7:∀ {a:Addr} {x:Str},PySem.W.nsIn K mainGlobals x=some (some (.ref a))->M (.ref a) (.fn x) [])
  (h8:∀ {a:Addr} {vs:List V} {ds:List D} {L:List Addr},H a=some (.tup vs)->Rps K F H vs ds L->N vs ds L->M (.ref a) (.tup ds) L)
  (h9:∀ {a:Addr} {ns:List Int},qF K H a ns->M (.ref a) (.scr ns) [])
  (h10:∀ {a:Addr} {vs:List V} {ds:List D},H a=some (.lst vs)->F a->Rps K F H vs ds []->N vs ds []->M (.ref a) (.lst false ds) [])
  (h11:∀ {a:Addr} {vs:List V} {ds:List D} {L:List Addr},H a=some (.lst vs)->Rps K F H vs ds L->N vs ds L->M (.ref a) (.lst true ds) (a :: L))
  (h12:∀ {a:Addr} {kvs:List (Key×V)} {ds:List D},H a=some (.dK kvs)->F a->Rps K F H (kvs.map (·.2)) ds []->N (kvs.map (·.2)) ds []->M (.ref a) (.dct false (kvs.map (·.1)) ds) [])
  (h13:∀ {a:Addr} {kvs:List (Key×V)} {ds:List D} {L:List Addr},H a=some (.dK kvs)->Rps K F H (kvs.map (·.2)) ds L->N (kvs.map (·.2)) ds L->M (.ref a) (.dct true (kvs.map (·.1)) ds) (a :: L))
  (h14:N [] [] []) (h15:∀ {v:V} {vs:List V} {d:D} {ds:List D} {L M':List Addr},Rp K F H v d L->Rps K F H vs ds M'->M v d L->N vs ds M'->N (v :: vs) (d :: ds) (L++M')) :
  (∀ {v:V} {d:D} {L:List Addr},Rp K F H v d L->M v d L) ∧ ∀ {vs:List V} {ds:List D} {L:List Addr},Rps K F H vs ds L->N vs ds L:=
 ⟨fun r=>Rp.rec (motive_1:=fun v d L _=>M v d L) (motive_2:=fun v d L _=>N v d L) h1 h2 h3 h4 h5 h6 h7 h8 h9 h10 h11 h12 h13 h14 h15 r,
  fun r=>Rps.rec (motive_1:=fun v d L _=>M v d L) (motive_2:=fun v d L _=>N v d L) h1 h2 h3 h4 h5 h6 h7 h8 h9 h10 h11 h12 h13 h14 h15 r⟩
theorem Rp.mono2 (hF:∀ a,F a->F' a) (hT:∀ a o,H a=some o->Still o->H' a=some o) (hK:∀ a o,F a->H a=some o->H' a=some o) :
  (∀ {v d L},Rp K F H v d L->(∀ a∈L,∀ o,H a=some o->H' a=some o)->Rp K F' H' v d L) ∧ ∀ {vs ds L},Rps K F H vs ds L->(∀ a∈L,∀ o,H a=some o->H' a=some o)->Rps K F' H' vs ds L:=
 Rp.both (M:=fun v d L=>(∀ a∈L,∀ o,H a=some o->H' a=some o)->Rp K F' H' v d L) (N:=fun v d L=>(∀ a∈L,∀ o,H a=some o->H' a=some o)->Rps K F' H' v d L)
  (fun _=>.non) (fun b _=>.bl b) (fun i _=>.int i) (fun x _=>.str x) (fun n _=>.ty n) (fun n h c _=>.xc n (hT _ _ h trivial) c) (fun n _=>.fn n) (fun h _ r k=>.tup (hT _ _ h trivial) (r k))
  (fun h _=>.scr (h.keep fun o e s=>hT _ o e s)) (fun h f _ r k=>.frz (hK _ _ f h) (hF _ f) (r k)) (fun h _ r k=>.own (k _ List.mem_cons_self _ h) (r fun a ha=>k a (List.mem_cons_of_mem _ ha)))
  (fun h f _ r k=>.dfz (hK _ _ f h) (hF _ f) (r k)) (fun h _ r k=>.down (k _ List.mem_cons_self _ h) (r fun a ha=>k a (List.mem_cons_of_mem _ ha)))
  (fun _=>.nil) (fun _ _ r rs k=>.cons (r fun a ha=>k a (List.mem_append_left _ ha)) (rs fun a ha=>k a (List.mem_append_right _ ha)))
theorem Rp.mono (hF:∀ a,F a->F' a) (hT:∀ a o,H a=some o->Still o->H' a=some o) (hK:∀ a o,F a->H a=some o->H' a=some o) {v d L} (r:Rp K F H v d L) (k:∀ a∈L,∀ o,H a=some o->H' a=some o):Rp K F' H' v d L:=(Rp.mono2 hF hT hK).1 r k
theorem Rps.mono (hF:∀ a,F a->F' a) (hT:∀ a o,H a=some o->Still o->H' a=some o) (hK:∀ a o,F a->H a=some o->H' a=some o) {vs ds L} (r:Rps K F H vs ds L) (k:∀ a∈L,∀ o,H a=some o->H' a=some o):Rps K F' H' vs ds L:=(Rp.mono2 hF hT hK).2 r k
theorem Rp.own2:(∀ {v d L},Rp K F H v d L -> ∀ a∈L,∃ xs:OL,H a=some xs.ho) ∧ ∀ {vs ds L},Rps K F H vs ds L -> ∀ a∈L,∃ xs:OL,H a=some xs.ho:=by
 have no:∀ a∈([]:List Addr),∃ xs:OL,H a=some xs.ho:=fun a h=>absurd h List.not_mem_nil
 exact Rp.both (M:=fun _ _ L=>∀ a∈L,∃ xs:OL,H a=some xs.ho) (N:=fun _ _ L=>∀ a∈L,∃ xs:OL,H a=some xs.ho)
  no (fun _=>no) (fun _=>no) (fun _=>no) (fun _=>no) (fun _ _ _=>no) (fun _=>no) (fun _ _ r=>r) (fun _=>no) (fun _ _ _ _=>no)
  (fun e _ r a h=>(List.mem_cons.mp h).elim (fun z=>⟨.l _,z ▸ e⟩) (r a)) (fun _ _ _ _=>no) (fun e _ r a h=>(List.mem_cons.mp h).elim (fun z=>⟨.d _,z ▸ e⟩) (r a))
  no (fun _ _ r rs a h=>(List.mem_append.mp h).elim (r a) (rs a))
theorem Rp.own_lst {v d L} (r:Rp K F H v d L):∀ a∈L,∃ xs:OL,H a=some xs.ho:=Rp.own2.1 r
theorem Rps.own_lst {vs ds L} (r:Rps K F H vs ds L):∀ a∈L,∃ xs:OL,H a=some xs.ho:=Rp.own2.2 r
theorem Rp.freeze2 (f:∀ a,F a->F' a):(∀ {v d L},Rp K F H v d L->(∀ a∈L,F' a)->Rp K F' H v d.fz []) ∧ ∀ {vs ds L},Rps K F H vs ds L->(∀ a∈L,F' a)->Rps K F' H vs (D.fzs ds) []:=
 Rp.both (M:=fun v d L=>(∀ a∈L,F' a)->Rp K F' H v d.fz []) (N:=fun vs ds L=>(∀ a∈L,F' a)->Rps K F' H vs (D.fzs ds) [])
  (fun _=>.non) (fun b _=>.bl b) (fun i _=>.int i) (fun x _=>.str x) (fun n _=>.ty n) (fun n h c _=>.xc n h c) (fun n _=>.fn n) (fun h _ r k=>by rw [D.fz];exact .tup h (r k))
  (fun h _=>.scr h) (fun h z _ r k=>by rw [D.fz];exact .frz h (f _ z) (r k)) (fun h _ r k=>by rw [D.fz];exact .frz h (k _ List.mem_cons_self) (r fun a ha=>k a (List.mem_cons_of_mem _ ha)))
  (fun h z _ r k=>by rw [D.fz];exact .dfz h (f _ z) (r k)) (fun h _ r k=>by rw [D.fz];exact .dfz h (k _ List.mem_cons_self) (r fun a ha=>k a (List.mem_cons_of_mem _ ha)))
  (fun _=>by rw [D.fzs];exact .nil) (fun _ _ r rs k=>by rw [D.fzs];exact .cons (L:=[]) (M:=[]) (r fun a ha=>k a (List.mem_append_left _ ha)) (rs fun a ha=>k a (List.mem_append_right _ ha)))
theorem Rp.freeze {v d L} (r:Rp K F H v d L) (f:∀ a,F a->F' a) (k:∀ a∈L,F' a):Rp K F' H v d.fz []:=(Rp.freeze2 f).1 r k
theorem Rps.freeze {vs ds L} (r:Rps K F H vs ds L) (f:∀ a,F a->F' a) (k:∀ a∈L,F' a):Rps K F' H vs (D.fzs ds) []:=(Rp.freeze2 f).2 r k
theorem Rp.fz_nil2:(∀ {v d L},Rp K F H v d L->d.fz=d->L=[]) ∧ ∀ {vs ds L},Rps K F H vs ds L->D.fzs ds=ds->L=[]:=
 Rp.both (M:=fun _ d L=>d.fz=d->L=[]) (N:=fun _ ds L=>D.fzs ds=ds->L=[])
  (fun _=>rfl) (fun _ _=>rfl) (fun _ _=>rfl) (fun _ _=>rfl) (fun _ _=>rfl) (fun _ _ _ _=>rfl) (fun _ _=>rfl) (fun _ _ r e=>r (by rw [D.fz] at e;injection e)) (fun _ _=>rfl) (fun _ _ _ _ _=>rfl)
  (fun _ _ _ e=>by rw [D.fz] at e;injection e with e1 _;cases e1) (fun _ _ _ _ _=>rfl) (fun _ _ _ e=>by rw [D.fz] at e;injection e with e1 _ _;cases e1)
  (fun _=>rfl) (fun _ _ r rs e=>by
   rw [D.fzs] at e
   injection e with e1 e2
   rw [r e1,rs e2];rfl)
theorem Rp.fz_nil {v d L} (r:Rp K F H v d L) (e:d.fz=d):L=[]:=Rp.fz_nil2.1 r e
theorem Rps.fz_nil {vs ds L} (r:Rps K F H vs ds L) (e:D.fzs ds=ds):L=[]:=Rp.fz_nil2.2 r e
theorem Rp.clean2:(∀ {v d L},Rp K F H v d L->d.clean=true->Rp K F' H v d L) ∧ ∀ {vs ds L},Rps K F H vs ds L->D.cleans ds=true->Rps K F' H vs ds L:=
 Rp.both (M:=fun v d L=>d.clean=true->Rp K F' H v d L) (N:=fun vs ds L=>D.cleans ds=true->Rps K F' H vs ds L)
  (fun _=>.non) (fun b _=>.bl b) (fun i _=>.int i) (fun x _=>.str x) (fun n _=>.ty n) (fun n h c _=>.xc n h c) (fun n _=>.fn n) (fun h _ r e=>.tup h (r (by rw [D.clean] at e;exact e)))
  (fun h _=>.scr h) (fun _ _ _ _ e=>by rw [D.clean] at e;simp at e) (fun h _ r e=>.own h (r (by rw [D.clean] at e;simpa using e)))
  (fun _ _ _ _ e=>by rw [D.clean] at e;simp at e) (fun h _ r e=>.down h (r (by rw [D.clean] at e;simpa using e)))
  (fun _=>.nil) (fun _ _ r rs e=>by
   rw [D.cleans,Bool.and_eq_true] at e
   exact .cons (r e.1) (rs e.2))
theorem Rp.clean {v d L} (r:Rp K F H v d L) (e:d.clean=true):Rp K F' H v d L:=Rp.clean2.1 r e
theorem Rps.clean {vs ds L} (r:Rps K F H vs ds L) (e:D.cleans ds=true):Rps K F' H vs ds L:=Rp.clean2.2 r e
theorem Cp:∀ ns:List Int,DpAll K H (ns.map V.int) (ns.map PyData.int)
 | []=>.nil
 | n :: ns=>.cons (.int n) (Cp ns)
mutual
noncomputable def D.pl:D->Bool
 | .ty _=>false
 | .xc _ _=>false
 | .fn _=>false
 | .dct _ _ _=>false
 | .tup ds=>D.pls ds
 | .lst _ ds=>D.pls ds
 | .non=>true
 | .bl _=>true
 | .int _=>true
 | .str _=>true
 | .scr _=>true
noncomputable def D.pls:List D->Bool
 | []=>true
 | d :: ds=>d.pl&&D.pls ds
end
theorem Rp.dp2:(∀ {v d L},Rp K F H v d L->d.pl=true->Dp K H v d.dat) ∧ ∀ {vs ds L},Rps K F H vs ds L->D.pls ds=true->DpAll K H vs (D.dats ds):=
 Rp.both (M:=fun v d _=>d.pl=true->Dp K H v d.dat) (N:=fun vs ds _=>D.pls ds=true->DpAll K H vs (D.dats ds))
  (fun _=>by rw [D.dat];exact .non) (fun b _=>by rw [D.dat];exact .bl b) (fun i _=>by rw [D.dat];exact .int i) (fun x _=>by rw [D.dat];exact .str x) (fun _ h=>by simp [D.pl] at h) (fun _ _ _ h=>by simp [D.pl] at h) (fun _ h=>by simp [D.pl] at h)
  (fun h _ r e=>by rw [D.dat];exact .tup (.of h) (r (by rw [D.pl] at e;exact e))) (fun h _=>by rw [D.dat];exact .lst h.sq (Cp _)) (fun h _ _ r e=>by rw [D.dat];exact .lst (.inl (.inl h)) (r (by rw [D.pl] at e;exact e)))
  (fun h _ r e=>by rw [D.dat];exact .lst (.inl (.inl h)) (r (by rw [D.pl] at e;exact e))) (fun _ _ _ _ h=>by simp [D.pl] at h) (fun _ _ _ h=>by simp [D.pl] at h)
  (fun _=>by rw [D.dats];exact .nil) (fun _ _ r rs e=>by
   rw [D.pls,Bool.and_eq_true] at e
   rw [D.dats];exact .cons (r e.1) (rs e.2))
theorem Rp.dp {v d L} (r:Rp K F H v d L) (e:d.pl=true):Dp K H v d.dat:=Rp.dp2.1 r e
theorem Rps.dp {vs ds L} (r:Rps K F H vs ds L) (e:D.pls ds=true):DpAll K H vs (D.dats ds):=Rp.dp2.2 r e
theorem Rp.sh_nil {v:V} {d:D} {L:List Addr} (r:Rp K F H v d L) (h:d.sh=true):L=[]:=r.fz_nil (d.sh_fz h)
theorem Rps.sh_nil {vs:List V} {ds:List D} {L:List Addr} (r:Rps K F H vs ds L) (h:D.shs ds=true):L=[]:=r.fz_nil (D.shs_fz ds h)
theorem Rps.length:∀ {vs:List V} {ds:List D} {L:List Addr},Rps K F H vs ds L->vs.length=ds.length
 | _,_,_,.nil=>rfl
 | _,_,_,.cons _ rs=>by rw [List.length_cons,List.length_cons,Rps.length rs]
theorem Rps.append:∀ {vs ws:List V} {ds es:List D} {L M:List Addr},Rps K F H vs ds L->Rps K F H ws es M->Rps K F H (vs++ws) (ds++es) (L++M)
 | _,_,_,_,_,_,.nil,s=>s
 | _,_,_,_,_,_,.cons r rs,s=>by rw [List.append_assoc];exact .cons r (Rps.append rs s)
theorem Rps.get:∀ {vs:List V} {ds:List D} {L:List Addr} {i:Nat} {d:D},Rps K F H vs ds L->ds[i]? = some d -> ∃ v M,vs[i]? = some v∧Rp K F H v d M∧M.Sublist L
 | _,_,_,i,d,.nil,e=>by simp at e
 | _,_,_,0,d,.cons (L:=L) (M:=M) r rs,e=>by
  simp at e;subst e
  exact ⟨_,L,rfl,r,List.sublist_append_left _ _⟩
 | _,_,_,i+1,d,.cons (L:=L) (M:=M) r rs,e=>by
  obtain ⟨v,M',h1,h2,h3⟩:=Rps.get (i:=i) rs (by simpa using e)
  exact ⟨v,M',by simpa using h1,h2,h3.trans (List.sublist_append_right _ _)⟩
end
mutual
theorem D.pl_of:∀ d:D,d.dat.canLay0=true->d.pl=true
 | .non,_=>by simp [D.pl]
 | .bl _,_=>by simp [D.pl]
 | .int _,_=>by simp [D.pl]
 | .str _,_=>by simp [D.pl]
 | .scr _,_=>by simp [D.pl]
 | .ty _,h=>by simp [D.dat,PyData.canLay0] at h
 | .xc _ _,h=>by simp [D.dat,PyData.canLay0] at h
 | .fn _,h=>by simp [D.dat,PyData.canLay0] at h
 | .dct _ _ _,h=>by simp [D.dat,PyData.canLay0] at h
 | .tup ds,h=>by rw [D.pl];exact D.pls_of ds (by rw [D.dat,PyData.canLay0] at h;exact h)
 | .lst _ ds,h=>by rw [D.pl];exact D.pls_of ds (by rw [D.dat,PyData.canLay0] at h;exact h)
theorem D.pls_of:∀ ds:List D,PyData.canLayAll0 (D.dats ds)=true->D.pls ds=true
 | [],_=>by simp [D.pls]
 | d :: ds,h=>by
  rw [D.dats,PyData.canLayAll0,Bool.and_eq_true] at h
  rw [D.pls,D.pl_of d h.1,D.pls_of ds h.2];rfl
end
noncomputable abbrev En:=List (Option D)
structure WS (K:PySem.W.Frag) (F:Addr->Prop) (H:Hp) (σ : St) (ρ : En) (Ls:Nat->List Addr) (R:List Addr):Prop where
 len : ρ.length = σ.length
 sl:∀ (i:Nat) (d:D),ρ[i]? = some (some d) -> ∃ v,σ[i]? = some (some v)∧Rp K F H v d (Ls i)
 em:∀ i:Nat,(∀ d,ρ[i]? ≠ some (some d))->Ls i=[]
 nd:∀ i,(Ls i).Nodup
 dj:∀ i j a,a∈Ls i->a∈Ls j->i=j
 rd:R.Nodup
 rj:∀ i a,a∈Ls i->a ∉ R
 nf:∀ i a,a∈Ls i -> ¬ F a
 nr:∀ a∈R,¬ F a
 tr:∀ a∈R,∃ xs:OL,H a=some xs.ho
 ft:∀ a,F a->H a≠none
structure Step (F:Addr->Prop) (H:Hp) (Ls:Nat->List Addr) (F':Addr->Prop) (H':Hp) (Ls':Nat->List Addr) (Ld:List Addr):Prop where
 keep:∀ a o,H a=some o->(∀ i,a ∉ Ls i)->H' a=some o
 mono:∀ a,F a->F' a
 src:∀ i a,a∈Ls' i->(∃ j,a∈Ls j)∨H a=none
 srcD:∀ a∈Ld,(∃ j,a∈Ls j)∨H a=none
section
variable {K:PySem.W.Frag} {F F1 F2:Addr->Prop} {H H1 H2:Hp} {σ : St} {ρ ρ1:En} {Ls Ls1 Ls2:Nat->List Addr} {R Ld Ld1 Ld2:List Addr} {v:V} {d:D} {L:List Addr}
theorem WS.own (w:WS K F H σ ρ Ls R) {i:Nat} {a:Addr} (h:a∈Ls i):∃ xs:OL,H a=some xs.ho:=by
 by_cases e:∃ d,ρ[i]? = some (some d)
 ·obtain ⟨d,e⟩:=e
  obtain ⟨v,_,r⟩:=w.sl i d e
  exact r.own_lst a h
 ·rw [w.em i fun d z=>e ⟨d,z⟩] at h;simp at h
theorem Step.refl:Step F H Ls F H Ls []:=⟨fun _ _ e _=>e,fun _ h=>h,fun i a h=>.inl ⟨i,h⟩,fun a h=>absurd h (by simp)⟩
theorem Step.trans (s1:Step F H Ls F1 H1 Ls1 Ld1) (s2:Step F1 H1 Ls1 F2 H2 Ls2 Ld2):Step F H Ls F2 H2 Ls2 Ld2:=by
 have back:∀ a,((∃ j,a∈Ls1 j)∨H1 a=none)->(∃ j,a∈Ls j)∨H a=none:=fun a h=>by
  rcases h with ⟨j,h⟩ | h
  ·exact s1.src j a h
  ·by_cases e:∃ j,a∈Ls j
   ·exact .inl e
   ·cases q:H a with
    | none=>exact .inr rfl
    | some o=>rw [s1.keep a o q fun i z=>e ⟨i,z⟩] at h;cases h
 refine ⟨fun a o e n=>s2.keep a o (s1.keep a o e n) fun i z=>?_,fun a h=>s2.mono a (s1.mono a h),fun i a h=>back a (s2.src i a h),fun a h=>back a (s2.srcD a h)⟩
 rcases s1.src i a z with ⟨j,q⟩ | q
 ·exact n j q
 ·rw [e] at q;cases q
theorem Step.more (s1:Step F H Ls F1 H1 Ls1 Ld1) (h:∀ a∈Ld2,(∃ j,a∈Ls j)∨H a=none):Step F H Ls F1 H1 Ls1 Ld2:=⟨s1.keep,s1.mono,s1.src,h⟩
theorem Step.both (s1:Step F H Ls F1 H1 Ls1 Ld1) (s2:Step F1 H1 Ls1 F2 H2 Ls2 Ld2):Step F H Ls F2 H2 Ls2 (Ld1++Ld2):=
 (s1.trans s2).more fun a h=>by
  rcases List.mem_append.mp h with z | z
  ·exact s1.srcD a z
  ·exact (s1.trans s2).srcD a z
theorem Rp.step (w:WS K F H σ ρ Ls R) (s:Step F H Ls F1 H1 Ls1 Ld) (r:Rp K F H v d L) (h:∀ a∈L,a∈R):Rp K F1 H1 v d L:=by
 refine r.mono s.mono (fun a o e st=>s.keep a o e fun i z=>?_) (fun a o f e=>s.keep a o e fun i z=>w.nf i a z f) fun a ha o e=>s.keep a o e fun i z=>w.rj i a z (h a ha)
 obtain ⟨xs,q⟩:=w.own z
 rw [e] at q;cases q;exact absurd st OL.no
theorem Rps.step (w:WS K F H σ ρ Ls R) (s:Step F H Ls F1 H1 Ls1 Ld) {vs:List V} {ds:List D} (r:Rps K F H vs ds L) (h:∀ a∈L,a∈R):Rps K F1 H1 vs ds L:=by
 refine r.mono s.mono (fun a o e st=>s.keep a o e fun i z=>?_) (fun a o f e=>s.keep a o e fun i z=>w.nf i a z f) fun a ha o e=>s.keep a o e fun i z=>w.rj i a z (h a ha)
 obtain ⟨xs,q⟩:=w.own z
 rw [e] at q;cases q;exact absurd st OL.no
theorem Rp.laid {p:Addr} {o:HO} (hn:H p=none) (r:Rp K F H v d L):Rp K F (upd H p o) v d L:=
 r.mono (fun _ h=>h) (fun a u e _=>by rw [bf (bI e hn)];exact e) (fun a u _ e=>by rw [bf (bI e hn)];exact e) fun a _ u e=>by rw [bf (bI e hn)];exact e
theorem Rps.laid {p:Addr} {o:HO} (hn:H p=none) {vs:List V} {ds:List D} (r:Rps K F H vs ds L):Rps K F (upd H p o) vs ds L:=
 r.mono (fun _ h=>h) (fun a u e _=>by rw [bf (bI e hn)];exact e) (fun a u _ e=>by rw [bf (bI e hn)];exact e) fun a _ u e=>by rw [bf (bI e hn)];exact e
theorem WS.laid {p:Addr} {o:HO} (hn:H p=none) (w:WS K F H σ ρ Ls R):WS K F (upd H p o) σ ρ Ls R where
 len:=w.len
 sl:=fun i d e=>let ⟨v,h1,h2⟩:=w.sl i d e;⟨v,h1,h2.laid hn⟩
 em:=w.em
 nd:=w.nd
 dj:=w.dj
 rd:=w.rd
 rj:=w.rj
 nf:=w.nf
 nr:=w.nr
 tr:=fun a h=>let ⟨xs,e⟩:=w.tr a h;⟨xs,by rw [bf (bI e hn)];exact e⟩
 ft:=fun a h=>by
  by_cases e:a=p
  ·rw [e,cJ];simp
  ·rw [bf e];exact w.ft a h
theorem Step.laid {p:Addr} {o:HO} (hn:H p=none):Step F H Ls F (upd H p o) Ls []:=
 ⟨fun a u e _=>by rw [bf (bI e hn)];exact e,fun _ h=>h,fun i a h=>.inl ⟨i,h⟩,fun a h=>absurd h (by simp)⟩
theorem WS.less {R':List Addr} (w:WS K F H σ ρ Ls R) (h:R'.Sublist R):WS K F H σ ρ Ls R':=
 { w with rd:=w.rd.sublist h,rj:=fun i a z q=>w.rj i a z (h.subset q),nr:=fun a z=>w.nr a (h.subset z),tr:=fun a z=>w.tr a (h.subset z) }
theorem WS.perm {R':List Addr} (w:WS K F H σ ρ Ls R) (h:R'.Perm R):WS K F H σ ρ Ls R':=
 { w with rd:=h.nodup_iff.mpr w.rd,rj:=fun i a z q=>w.rj i a z (h.mem_iff.mp q),nr:=fun a z=>w.nr a (h.mem_iff.mp z),tr:=fun a z=>w.tr a (h.mem_iff.mp z) }
theorem WS.give {M:List Addr} (w:WS K F H σ ρ Ls (M++R)):WS K (fun a=>F a∨a∈M) H σ ρ Ls R where
 len:=w.len
 sl:=fun i d e=>let ⟨v,h1,h2⟩:=w.sl i d e;⟨v,h1,h2.mono (fun _ h=>.inl h) (fun _ _ e _=>e) (fun _ _ _ e=>e) fun _ _ _ e=>e⟩
 em:=w.em
 nd:=w.nd
 dj:=w.dj
 rd:=(List.nodup_append.mp w.rd).2.1
 rj:=fun i a z q=>w.rj i a z (List.mem_append_right _ q)
 nf:=fun i a z q=>by
  rcases q with q | q
  ·exact w.nf i a z q
  ·exact w.rj i a z (List.mem_append_left _ q)
 nr:=fun a z q=>by
  rcases q with q | q
  ·exact w.nr a (List.mem_append_right _ z) q
  ·exact (List.nodup_append.mp w.rd).2.2 a q a z rfl
 tr:=fun a z=>w.tr a (List.mem_append_right _ z)
 ft:=fun a h=>by
  rcases h with h | h
  ·exact w.ft a h
  ·obtain ⟨xs,e⟩:=w.tr a (List.mem_append_left _ h)
   rw [e];simp
theorem Step.give {M:List Addr}:Step F H Ls (fun a=>F a∨a∈M) H Ls []:=⟨fun _ _ e _=>e,fun _ h=>.inl h,fun i a h=>.inl ⟨i,h⟩,fun a h=>absurd h (by simp)⟩
theorem WS.put {p:Addr} {xs:List V} (hn:H p=none) (w:WS K F H σ ρ Ls R):WS K F (upd H p (.lst xs)) σ ρ Ls (p :: R):=
 let w':=w.laid (o:=.lst xs) hn
 { w' with
   rd:=List.nodup_cons.mpr ⟨fun z=>(by obtain ⟨ys,e⟩:=w.tr p z;rw [hn] at e;cases e),w.rd⟩
   rj:=fun i a z q=>by
    rcases List.mem_cons.mp q with q | q
    ·subst q;obtain ⟨ys,e⟩:=w.own z;rw [hn] at e;cases e
    ·exact w.rj i a z q
   nr:=fun a z q=>by
    rcases List.mem_cons.mp z with z | z
    ·subst z;exact w.ft a q hn
    ·exact w.nr a z q
   tr:=fun a z=>by
    rcases List.mem_cons.mp z with z | z
    ·subst z;exact ⟨.l xs,cJ⟩
    ·exact w'.tr a z }
end
noncomputable abbrev aZ:=En->(D->En->Prop)->Prop
noncomputable def gM (K:PySem.W.Frag) (s:aZ):TE:=fun σ H Q=>∃ F ρ Ls R Qd,WS K F H σ ρ Ls R∧s ρ Qd ∧
 ∀ v H' d ρ' F' Ls' Ld,Rp K F' H' v d Ld->WS K F' H' σ ρ' Ls' (Ld++R)->Step F H Ls F' H' Ls' Ld->Qd d ρ'->Q v H'
noncomputable def SE (X:Cx) (e:Expr) (s:aZ):Prop:=PE X e (gM X.K s)
theorem PE.wk {X:Cx} {e:Expr} {t t':TE} (h:PE X e t) (k:∀ σ H Q,t' σ H Q->t σ H Q):PE X e t':=fun pins s σ H Q I q=>h pins s σ H Q I (k σ H Q q)
theorem PT.wk {X:Cx} {e:Expr} {t t':TT} (h:PT X e t) (k:∀ σ H Q,t' σ H Q->t σ H Q):PT X e t':=fun pins s σ H Q I q=>h pins s σ H Q I (k σ H Q q)
theorem PW.wk {X:Cx} {e:Expr} {t t':TT} (h:PW X e t) (k:∀ σ H Q,t' σ H Q->t σ H Q):PW X e t':=fun wh pins s σ H Q I q=>h wh pins s σ H Q I (k σ H Q q)
theorem PA.wk {X:Cx} {e:List Expr} {t t':TA} (h:PA X e t) (k:∀ σ H Q,t' σ H Q->t σ H Q):PA X e t':=fun pos pins s σ H Q I q=>h pos pins s σ H Q I (k σ H Q q)
theorem PS.wk {X:Cx} {e:Stmt} {t t':TS} (h:PS X e t) (k:∀ D σ H,t' D σ H->t D σ H):PS X e t':=fun pins s σ H D I q=>h pins s σ H D I (k D σ H q)
theorem PSs.wk {X:Cx} {e:List Stmt} {t t':TS} (h:PSs X e t) (k:∀ D σ H,t' D σ H->t D σ H):PSs X e t':=fun pins s σ H D I q=>h pins s σ H D I (k D σ H q)
noncomputable def D.flat:D->Option V
 | .non=>some .non
 | .bl b=>some (.bl b)
 | .int i=>some (.int i)
 | .str x=>some (.str x)
 | .ty n=>some (.ty n)
 | _=>none
theorem Rp.ofFlat {K:PySem.W.Frag} {F:Addr->Prop} {H:Hp}:∀ {d:D} {v:V},d.flat=some v->Rp K F H v d []
 | .non,_,e=>by cases e;exact .non
 | .bl b,_,e=>by cases e;exact .bl b
 | .int i,_,e=>by cases e;exact .int i
 | .str x,_,e=>by cases e;exact .str x
 | .tup _,_,e=>by cases e
 | .lst _ _,_,e=>by cases e
 | .scr _,_,e=>by cases e
 | .ty n,_,e=>by cases e;exact .ty n
 | .xc _ _,_,e=>by cases e
 | .fn _,_,e=>by cases e
 | .dct _ _ _,_,e=>by cases e
theorem Rp.isInt {K:PySem.W.Frag} {F:Addr->Prop} {H:Hp} {v:V} {i:Int} {L:List Addr} (r:Rp K F H v (.int i) L):v = .int i:=by cases r;rfl
theorem Rp.isBl {K:PySem.W.Frag} {F:Addr->Prop} {H:Hp} {v:V} {i:Bool} {L:List Addr} (r:Rp K F H v (.bl i) L):v = .bl i:=by cases r;rfl
theorem Rp.isStr {K:PySem.W.Frag} {F:Addr->Prop} {H:Hp} {v:V} {i:Str} {L:List Addr} (r:Rp K F H v (.str i) L):v = .str i:=by cases r;rfl
noncomputable def sC (d:D):aZ:=fun ρ Q=>Q d ρ
section
variable {X:Cx} {pos:Pos}
theorem gA {K:PySem.W.Frag} {d:D} {v:V} (e:d.flat=some v) {σ : St} {H:Hp} {Q:VK} (h:gM K (sC d) σ H Q):Q v H:=by
 obtain ⟨F,ρ,Ls,R,Qd,w,q,k⟩:=h
 exact k v H d ρ F Ls [] (.ofFlat e) w Step.refl q
theorem aq {i j pos}:SE X (.Constant (.int i) j pos) (sC (.int i)):=RM.wk fun _ _ _ h=>gA rfl h
theorem gj {i j pos}:SE X (.Constant (.bool i) j pos) (sC (.bl i)):=Uy.wk fun _ _ _ h=>gA rfl h
theorem mJ {j pos}:SE X (.Constant .none j pos) (sC .non):=RP.wk fun _ _ _ h=>gA rfl h
theorem cg {i j pos}:SE X (.Constant (.str i) j pos) (sC (.str i)):=Bu.wk fun _ _ _ h=>gA rfl h
end
noncomputable def jq (Ls:Nat->List Addr) (i:Nat) (L:List Addr):Nat->List Addr:=fun j=>if j=i then L else Ls j
theorem aH {Ls:Nat->List Addr} {i:Nat} {L:List Addr}:jq Ls i L i=L:=if_pos rfl
theorem aQ {Ls:Nat->List Addr} {i j:Nat} {L:List Addr} (h:j≠i):jq Ls i L j=Ls j:=if_neg h
noncomputable def aL (i:Nat):aZ:=fun ρ Q=>∃ d,ρ[i]? = some (some d)∧if d.sh=true then Q d ρ else Q d.fz (ρ.set i (some d.fz))
section
variable {K:PySem.W.Frag} {F:Addr->Prop} {H:Hp} {σ : St} {ρ : En} {Ls:Nat->List Addr} {R:List Addr}
theorem WS.share {i:Nat} {d:D} (w:WS K F H σ ρ Ls R) (e : ρ[i]? = some (some d)) :
  ∃ v,σ[i]? = some (some v)∧Rp K (fun a=>F a∨a∈Ls i) H v d.fz []∧WS K (fun a=>F a∨a∈Ls i) H σ (ρ.set i (some d.fz)) (jq Ls i []) R:=by
 obtain ⟨v,hv,r⟩:=w.sl i d e
 have hr:=r.freeze (F':=fun a=>F a∨a∈Ls i) (fun _ h=>.inl h) fun _ h=>.inr h
 have hi:i < ρ.length:=(List.getElem?_eq_some_iff.mp e).1
 refine ⟨v,hv,hr,?_⟩
 exact {
  len:=by rw [List.length_set];exact w.len
  sl:=fun j d' e'=>by
   by_cases h:j=i
   ·subst h
    rw [List.getElem?_set_self hi] at e'
    cases e'
    exact ⟨v,hv,by rw [aH];exact hr⟩
   ·rw [List.getElem?_set_ne (Ne.symm h)] at e'
    obtain ⟨u,h1,h2⟩:=w.sl j d' e'
    exact ⟨u,h1,by rw [aQ h];exact h2.mono (fun _ h=>.inl h) (fun _ _ e _=>e) (fun _ _ _ e=>e) fun _ _ _ e=>e⟩
  em:=fun j h=>by
   by_cases hj:j=i
   ·rw [hj,aH]
   ·rw [aQ hj]
    exact w.em j fun d' z=>h d' (by rw [List.getElem?_set_ne (Ne.symm hj)];exact z)
  nd:=fun j=>by
   by_cases hj:j=i
   ·rw [hj,aH];exact List.nodup_nil
   ·rw [aQ hj];exact w.nd j
  dj:=fun j k a h1 h2=>by
   by_cases hj:j=i
   ·rw [hj,aH] at h1;simp at h1
   ·by_cases hk:k=i
    ·rw [hk,aH] at h2;simp at h2
    ·rw [aQ hj] at h1;rw [aQ hk] at h2;exact w.dj j k a h1 h2
  rd:=w.rd
  rj:=fun j a h=>by
   by_cases hj:j=i
   ·rw [hj,aH] at h;simp at h
   ·rw [aQ hj] at h;exact w.rj j a h
  nf:=fun j a h q=>by
   by_cases hj:j=i
   ·rw [hj,aH] at h;simp at h
   ·rw [aQ hj] at h
    rcases q with q | q
    ·exact w.nf j a h q
    ·exact hj (w.dj j i a h q)
  nr:=fun a h q=>by
   rcases q with q | q
   ·exact w.nr a h q
   ·exact w.rj i a q h
  tr:=w.tr
  ft:=fun a h=>by
   rcases h with h | h
   ·exact w.ft a h
   ·obtain ⟨xs,e⟩:=w.own h
    rw [e];simp }
theorem Step.share {i:Nat}:Step F H Ls (fun a=>F a∨a∈Ls i) H (jq Ls i []) []:=
 ⟨fun _ _ e _=>e,fun _ h=>.inl h,fun j a h=>by
  by_cases hj:j=i
  ·rw [hj,aH] at h;simp at h
  ·rw [aQ hj] at h;exact .inl ⟨j,h⟩,fun a h=>absurd h (by simp)⟩
end
theorem SX {X:Cx} {i:Nat} {x:Str} {pos:Pos} (hN:X.N[i]? = some x) (hv:Vis X.env.scope x) (hd:(x==("__debug__" : Str))=false:=by decide) (hcd:(x==("__classdict__" : Str))=false:=by decide):SE X (.Name x pos) (aL i):=
 (nZ hN hv hd hcd).wk fun σ H Q hh13=>by
  obtain ⟨F,ρ,Ls,R,Qd,w,⟨d,e,q⟩,k⟩:=hh13
  split at q
  ·rename_i hs
   obtain ⟨v,hv,r⟩:=w.sl i d e
   cases hL:Ls i with
   | nil=>rw [hL] at r;exact ⟨v,hv,k v H d _ _ _ [] r w Step.refl q⟩
   | cons _ _=>rw [r.sh_nil hs] at hL;cases hL
  ·obtain ⟨v,hv,r,w'⟩:=w.share e
   exact ⟨v,hv,k v H d.fz _ _ _ [] r w' Step.share q⟩
inductive Opd where
 | val (s:aZ) | nam (i:Nat)
inductive AD where
 | val (d:D) | nam (i:Nat)
noncomputable def AD.get (ρ : En):AD->Option D
 | .val d=>some d
 | .nam i=>(ρ[i]?).getD none
noncomputable def dD:List Opd->En->(List AD->En->Prop)->Prop
 | [],ρ,Q=>Q [] ρ
 | .val s :: os,ρ,Q=>s ρ fun d ρ1=>dD os ρ1 fun as ρ2=>Q (.val d :: as) ρ2
 | .nam i :: os,ρ,Q=>(∃ d,ρ[i]? = some (some d))∧dD os ρ fun as ρ2=>Q (.nam i :: as) ρ2
inductive RpA (K:PySem.W.Frag) (F:Addr->Prop) (H:Hp) (σ : St):List V->List AD->List Addr->Prop where
 | nil:RpA K F H σ [] [] []
 | val {v:V} {vs:List V} {d:D} {as:List AD} {L M:List Addr}:Rp K F H v d L->RpA K F H σ vs as M->RpA K F H σ (v :: vs) (.val d :: as) (L++M)
 | nam {v:V} {vs:List V} {i:Nat} {as:List AD} {M:List Addr} : σ[i]? = some (some v)->RpA K F H σ vs as M->RpA K F H σ (v :: vs) (.nam i :: as) M
noncomputable def pM (K:PySem.W.Frag):Opd->TE
 | .val s=>gM K s
 | .nam i=>JV i
noncomputable def oE (K:PySem.W.Frag) (os:List Opd):TA:=fun σ H Q=>∃ F ρ Ls R Qd,WS K F H σ ρ Ls R∧dD os ρ Qd ∧
 ∀ vs H' as ρ' F' Ls' La,RpA K F' H' σ vs as La->WS K F' H' σ ρ' Ls' (La++R)->Step F H Ls F' H' Ls' La->Qd as ρ'->Q vs H'
noncomputable def SO (X:Cx) (e:Expr) (o:Opd):Prop:=PE X e (pM X.K o)
noncomputable def SA (X:Cx) (es:List Expr) (os:List Opd):Prop:=PA X es (oE X.K os)
section
variable {X:Cx}
theorem aa {e:Expr} {s:aZ} (h:SE X e s):SO X e (.val s):=h
theorem Tg {i:Nat} {x:Str} {pos:Pos} (hN:X.N[i]? = some x) (hv:Vis X.env.scope x) (hd:(x==("__debug__" : Str))=false:=by decide) (hcd:(x==("__classdict__" : Str))=false:=by decide):SO X (.Name x pos) (.nam i):=nZ hN hv hd hcd
theorem ak:SA X [] []:=Bt.wk fun σ H Q ⟨F,ρ,Ls,R,Qd,w,q,k⟩=>k [] H [] ρ F Ls [] .nil w Step.refl q
theorem eH {K:PySem.W.Frag} {o:Opd} {os:List Opd} {σ : St} {H:Hp} {Q:List V->Hp->Prop} (h:oE K (o :: os) σ H Q):pM K o σ H fun v H1=>oE K os σ H1 fun vs H2=>Q (v :: vs) H2:=by
 obtain ⟨F,ρ,Ls,R,Qd,w,q,k⟩:=h
 cases o with
 | val s=>
  refine ⟨F,ρ,Ls,R,_,w,q,fun v H1 d ρ1 F1 Ls1 Ld r1 w1 s1 q1=>?_⟩
  refine ⟨F1,ρ1,Ls1,Ld++R,_,w1,q1,fun vs H2 as ρ2 F2 Ls2 La r2 w2 s2 q2=>?_⟩
  refine k (v :: vs) H2 (.val d :: as) ρ2 F2 Ls2 (Ld++La) (.val (r1.step w1 s2 fun a ha=>List.mem_append_left _ ha) r2) (w2.perm ?_) (s1.both s2) q2
  rw [← List.append_assoc]
  exact (List.perm_append_comm.append_right R)
 | nam i=>
  obtain ⟨⟨d,e⟩,q⟩:=q
  obtain ⟨v,e,_⟩:=w.sl i d e
  exact ⟨v,e,F,ρ,Ls,R,_,w,q,fun vs H2 as ρ2 F2 Ls2 La r2 w2 s2 q2=>k (v :: vs) H2 (.nam i :: as) ρ2 F2 Ls2 La (.nam e r2) w2 s2 q2⟩
theorem aj {e:Expr} {es:List Expr} {o:Opd} {os:List Opd} (h:SO X e o) (hs:SA X es os) (he:starEach (e :: es) X.env=(false,eval e X.env) :: starEach es X.env:=by rfl):SA X (e :: es) (o :: os):=
 (wZ h hs he).wk fun σ H Q q=>eH q
end
noncomputable def aY (ρ : En):List AD->Option (List D)
 | []=>some []
 | a :: as=>match a.get ρ,aY ρ as with
  | some d,some ds=>some (d :: ds)
  | _,_=>none
inductive RpB (K:PySem.W.Frag) (F:Addr->Prop) (H:Hp):List V->List D->Prop where
 | nil:RpB K F H [] []
 | cons {v:V} {vs:List V} {d:D} {ds:List D} {L:List Addr}:Rp K F H v d L->RpB K F H vs ds->RpB K F H (v :: vs) (d :: ds)
section
variable {K:PySem.W.Frag} {F:Addr->Prop} {H:Hp} {σ : St} {ρ : En} {Ls:Nat->List Addr} {R:List Addr}
theorem RpA.at (w:WS K F H σ ρ Ls R) {vs:List V} {as:List AD} {La:List Addr} {ds:List D} (r:RpA K F H σ vs as La) (e:aY ρ as=some ds):RpB K F H vs ds:=by
 induction r generalizing ds with
 | nil=>cases e;exact .nil
 | @val v vs d as L M r rs ih=>
  simp only [aY,AD.get] at e
  cases h:aY ρ as with
  | none=>rw [h] at e;cases e
  | some ds=>rw [h] at e;cases e;exact .cons r (ih h)
 | @nam v vs i as M hi rs ih=>
  simp only [aY,AD.get] at e
  cases hd : ρ[i]? with
  | none=>rw [hd] at e;simp at e
  | some o=>
   cases o with
   | none=>rw [hd] at e;simp at e
   | some d=>
    rw [hd] at e
    cases h:aY ρ as with
    | none=>rw [h] at e;simp at e
    | some ds=>
     rw [h] at e
     simp at e
     subst e
     obtain ⟨u,hu,r⟩:=w.sl i d hd
     rw [hi] at hu
     cases hu
     exact .cons r (ih h)
end
section
variable {X:Cx} {a b:Expr} {o1 o2:Opd} {pos:Pos}
theorem tZ {K:PySem.W.Frag} {σ : St} {H:Hp} {r:R2} {Q:VK} (h:oE K [o1,o2] σ H fun vs H1=>∃ x y,vs=[x,y]∧r x y H1 Q):tOp r (pM K o1) (pM K o2) σ H Q:=by
 have h1:=eH h
 have mono:∀ (o:Opd) (σ : St) (H:Hp) (P P':VK),(∀ v H,P v H->P' v H)->pM K o σ H P->pM K o σ H P':=fun o σ H P P' i h=>by
  cases o with
  | val s=>
   obtain ⟨F,ρ,Ls,R,Qd,w,q,k⟩:=h
   exact ⟨F,ρ,Ls,R,Qd,w,q,fun v H' d ρ' F' Ls' Ld a1 a2 a3 a4=>i _ _ (k v H' d ρ' F' Ls' Ld a1 a2 a3 a4)⟩
  | nam i'=>obtain ⟨v,e,p⟩:=h;exact ⟨v,e,i _ _ p⟩
 refine mono o1 σ H _ _ (fun v H1 q1=>?_) h1
 refine mono o2 σ H1 _ _ (fun u H2 q2=>?_) (eH q1)
 obtain ⟨F,ρ,Ls,R,Qd,w,q,k⟩:=q2
 obtain ⟨x,y,e,q⟩:=k [] H2 [] ρ F Ls [] .nil w Step.refl q
 cases e
 exact q
end
noncomputable def Out (K:PySem.W.Frag) (F:Addr->Prop) (H:Hp) (f:D) (v:V) (H':Hp) (Lf:List Addr):Prop:=
 Rp K F H' v f Lf∧((H'=H∧Lf=[]) ∨ ∃ p,H p=none∧((∃ xs,H'=upd H p (.lst xs)∧Lf=[p]) ∨ ∃ xs,H'=upd H p (.tup xs)∧Lf=[]))
theorem Out.ofFlat {K:PySem.W.Frag} {F:Addr->Prop} {H:Hp} {f:D} {v:V} (e:f.flat=some v):Out K F H f v H []:=⟨.ofFlat e,.inl ⟨rfl,rfl⟩⟩
theorem Out.same {K:PySem.W.Frag} {F:Addr->Prop} {H:Hp} {f:D} {v:V} (r:Rp K F H v f []):Out K F H f v H []:=⟨r,.inl ⟨rfl,rfl⟩⟩
theorem Out.list {K:PySem.W.Frag} {F:Addr->Prop} {H:Hp} {ds:List D} {vs:List V} {p:Addr} (hn:H p=none) (r:Rps K F H vs ds []):Out K F H (.lst true ds) (.ref p) (upd H p (.lst vs)) [p]:=
 ⟨.own cJ (r.laid hn),.inr ⟨p,hn,.inl ⟨vs,rfl,rfl⟩⟩⟩
theorem Out.tuple {K:PySem.W.Frag} {F:Addr->Prop} {H:Hp} {ds:List D} {vs:List V} {p:Addr} (hn:H p=none) (r:Rps K F H vs ds []):Out K F H (.tup ds) (.ref p) (upd H p (.tup vs)) []:=
 ⟨.tup cJ (r.laid hn),.inr ⟨p,hn,.inr ⟨vs,rfl,rfl⟩⟩⟩
noncomputable def bM (K:PySem.W.Frag) (r:List V->Hp->VK->Prop) (g:List D->Option D):Prop:=
 ∀ (F:Addr->Prop) (H:Hp) (vs:List V) (ds:List D) (f:D) (Q:VK),RpB K F H vs ds->g ds=some f->(∀ v H' Lf,Out K F H f v H' Lf->Q v H')->r vs H Q
noncomputable def sDo (g:List D->Option D) (os:List Opd):aZ:=fun ρ Q=>dD os ρ fun as ρ'=>∃ ds f,aY ρ' as=some ds∧g ds=some f∧Q f ρ'
theorem gK {K:PySem.W.Frag} {r:List V->Hp->VK->Prop} {g:List D->Option D} (hg:bM K r g) {os:List Opd} {σ : St} {H:Hp} {Q:VK} (h:gM K (sDo g os) σ H Q):oE K os σ H fun vs H1=>r vs H1 Q:=by
 obtain ⟨F,ρ,Ls,R,Qd,w,q,k⟩:=h
 refine ⟨F,ρ,Ls,R,_,w,q,fun vs H1 as ρ1 F1 Ls1 La r1 w1 s1 q1=>?_⟩
 obtain ⟨ds,f,e1,e2,q1⟩:=q1
 refine hg F1 H1 vs ds f Q (r1.at w1 e1) e2 fun v H2 Lf o=>?_
 obtain ⟨rf,o⟩:=o
 have w2:=w1.less (List.sublist_append_right La R)
 have s2:=s1.more (Ld2:=[]) fun a h=>absurd h (by simp)
 rcases o with ⟨rfl,rfl⟩ | ⟨p,hn,⟨xs,rfl,rfl⟩ | ⟨xs,rfl,rfl⟩⟩
 ·exact k v _ f ρ1 F1 Ls1 [] rf w2 s2 q1
 ·exact k v _ f ρ1 F1 Ls1 [p] rf (w2.put hn) ((s2.trans (Step.laid hn)).more fun a ha=>by
   cases List.mem_singleton.mp ha
   by_cases e:∃ j,p∈Ls j
   ·exact .inl e
   ·cases q:H p with
    | none=>exact .inr rfl
    | some o=>rw [s1.keep p o q fun i z=>e ⟨i,z⟩] at hn;cases hn) q1
 ·exact k v _ f ρ1 F1 Ls1 [] rf (w2.laid hn) (s2.trans (Step.laid hn)) q1
noncomputable abbrev r2 (r:R2):List V->Hp->VK->Prop:=fun vs H Q=>∃ x y,vs=[x,y]∧r x y H Q
section
variable {X:Cx} {a b:Expr} {o1 o2:Opd} {pos:Pos} {r:R2} {g:List D->Option D}
theorem aN {op:Operator} (ho:OpR X (binaryOp op) r) (hg:bM X.K (r2 r) g) (ha:SO X a o1) (hb:SO X b o2):SE X (.BinOp a op b pos) (sDo g [o1,o2]):=
 (Uz ho ha hb).wk fun σ H Q h=>tZ (gK hg h)
theorem kY {op:CmpOp} (ho:OpR X (compareOp op) r) (hg:bM X.K (r2 r) g) (ha:SO X a o1) (hb:SO X b o2) (hm:behindInMarks op b=false):SE X (.Compare a [op] [b] pos) (sDo g [o1,o2]):=
 (Nf ho ha hb hm).wk fun σ H Q h=>tZ (gK hg h)
theorem fB (hr:IxR X r) (hg:bM X.K (r2 r) g) (ha:SO X a o1) (hb:SO X b o2) (hs:oH b):SE X (.Subscript a b pos) (sDo g [o1,o2]):=
 (IW hr ha hb hs).wk fun σ H Q h=>tZ (gK hg h)
theorem jB {K:PySem.W.Frag} {o:Opd} {σ : St} {H:Hp} {P P':VK} (i:∀ v H,P v H->P' v H) (h:pM K o σ H P):pM K o σ H P':=by
 cases o with
 | val s=>
  obtain ⟨F,ρ,Ls,R,Qd,w,q,k⟩:=h
  exact ⟨F,ρ,Ls,R,Qd,w,q,fun v H' d ρ' F' Ls' Ld a1 a2 a3 a4=>i _ _ (k v H' d ρ' F' Ls' Ld a1 a2 a3 a4)⟩
 | nam i'=>obtain ⟨v,e,p⟩:=h;exact ⟨v,e,i _ _ p⟩
theorem BV {K:PySem.W.Frag} {σ : St} {H:Hp} {P:VK} (h:oE K [o1] σ H fun vs H1=>∃ x,vs=[x]∧P x H1):pM K o1 σ H P:=by
 refine jB (fun v H1 q1=>?_) (eH h)
 obtain ⟨F,ρ,Ls,R,Qd,w,q,k⟩:=q1
 obtain ⟨x,e,q⟩:=k [] H1 [] ρ F Ls [] .nil w Step.refl q
 cases e
 exact q
theorem Vs {op:UnaryOp} {r:V->Hp->VK->Prop} (ho:UnR X (unaryOp op) r) (hg:bM X.K (fun vs H Q=>∃ x,vs=[x]∧r x H Q) g) (ha:SO X a o1):SE X (.UnaryOp op a pos) (sDo g [o1]):=
 (UJ ho ha).wk fun σ H Q h=>BV (gK hg h)
theorem bA {x:Str} {id:String} {rr:List V->Hp->VK->Prop} {es:List Expr} {os:List Opd} {p:Pos} {e:Expr} (hc:gO X (.builtin id) rr) (hg:bM X.K rr g) (hl:Gl X x) (hm:X.mg x=none) (hv:bootBuiltins x=some (.builtin id)) (ha:SA X (e :: es) os)
  (hn:x ≠ "__name__":=by decide) (hdb:(x==("__debug__" : Str))=false:=by decide)
  (he:starEach (e :: es) X.env=(false,eval e X.env) :: starEach es X.env:=by rfl) (hpl:(backTo pos (starEach es X.env)).any (·.1)=false:=by rfl):SE X (.Call (.Name x p) (e :: es) [] pos) (sDo g os):=
 (Iz hc hl hm hv ha hn hdb he hpl).wk fun σ H Q h=>gK hg h
theorem bG {x:Str} {T:String} {rr:List V->Hp->VK->Prop} {es:List Expr} {os:List Opd} {p:Pos} {e:Expr} (hc:gO X (.type T) rr) (hg:bM X.K rr g) (hl:Gl X x) (hm:X.mg x=none) (hv:bootBuiltins x=some (.type T)) (ha:SA X (e :: es) os)
  (hn:x ≠ "__name__":=by decide) (hdb:(x==("__debug__" : Str))=false:=by decide)
  (he:starEach (e :: es) X.env=(false,eval e X.env) :: starEach es X.env:=by rfl) (hpl:(backTo pos (starEach es X.env)).any (·.1)=false:=by rfl):SE X (.Call (.Name x p) (e :: es) [] pos) (sDo g os):=
 (FN hc hl hm hv ha hn hdb he hpl).wk fun σ H Q h=>gK hg h
end
structure Cc (X:Cx) (k:Nat):Prop where
 calm:X.calm=true
 room:Room k X.A
 tree:X.prog.given.tree=none
 seer:∃ env l,X.stack=env :: l∧env.scope.isGenerator=false∧env.scope.isCoroutine=false∧env.builtins=builtinsNs∧env.globals=mainGlobals
theorem Cc.mono {X:Cx} {j k:Nat} (c:Cc X k) (h:j<=k):Cc X j:=⟨c.calm,c.room.mono h,c.tree,c.seer⟩
noncomputable abbrev bits (i:Int):Nat:=Builtin.Int.intBits i
noncomputable def bC:List D->Option D
 | [.int i,.int j]=>some (.int (i+j))
 | [.str x,.str y]=>if x.length+y.length<=sizeLine then some (.str (x++y)) else none
 | [.lst _ xs,.lst _ ys]=>if xs.length+ys.length<=sizeLine∧D.shs xs=true∧D.shs ys=true then some (.lst true (xs++ys)) else none
 | [.tup xs,.tup ys]=>if xs.length+ys.length<=sizeLine∧D.shs xs=true∧D.shs ys=true then some (.tup (xs++ys)) else none
 | _=>none
section
variable {K:PySem.W.Frag} {F:Addr->Prop} {H:Hp}
theorem RpB.two {vs:List V} {d e:D} (r:RpB K F H vs [d,e]):∃ x y L M,vs=[x,y]∧Rp K F H x d L∧Rp K F H y e M:=by
 cases r with
 | cons r1 rs=>cases rs with
  | cons r2 rs=>cases rs with
   | nil=>exact ⟨_,_,_,_,rfl,r1,r2⟩
theorem RpB.one {vs:List V} {d:D} (r:RpB K F H vs [d]):∃ x L,vs=[x]∧Rp K F H x d L:=by
 cases r with
 | cons r1 rs=>cases rs with
  | nil=>exact ⟨_,_,rfl,r1⟩
theorem Rp.lst_at {v:V} {o:Bool} {ds:List D} {L:List Addr} (r:Rp K F H v (.lst o ds) L):∃ a vs M,v = .ref a∧H a=some (.lst vs)∧Rps K F H vs ds M∧(∀ b∈M,b∈L):=by
 cases r with
 | frz h f r=>exact ⟨_,_,_,rfl,h,r,fun b h=>h⟩
 | own h r=>exact ⟨_,_,_,rfl,h,r,fun b h=>List.mem_cons_of_mem _ h⟩
theorem Rp.tup_at {v:V} {ds:List D} {L:List Addr} (r:Rp K F H v (.tup ds) L):∃ a vs,v = .ref a∧SqT K H a vs∧Rps K F H vs ds L:=by
 cases r with
 | tup h r=>exact ⟨_,_,rfl,.of h,r⟩
theorem Rp.tup_in {v:V} {ds:List D} {L:List Addr} (r:Rp K F H v (.tup ds) L):∃ a vs,v = .ref a∧H a=some (.tup vs)∧Rps K F H vs ds L:=by
 cases r with
 | tup h r=>exact ⟨_,_,rfl,h,r⟩
end
section
variable {X:Cx}
theorem Iu:OpR X (binaryOp .Add) (fun x y H Q=>∃ a b ys,x = .ref a∧y = .ref b∧SqT X.K H a []∧SqT X.K H b ys∧Q (.ref b) H):=by
 intro pins s σ H x y v u Q I rx ry h
 obtain ⟨a,b,ys,rfl,rfl,ha,hb,q⟩:=h
 cases rx;cases ry
 obtain ⟨its,r,ht,hz⟩:=I.tuple ha
 obtain ⟨its2,r',ht',hz'⟩:=I.tuple hb
 have e0:its=[]:=by have:=r.length;simpa using this.symm
 subst e0
 obtain ⟨⟨cls,dd,data,sl⟩,ho,hc,n,hd⟩:=id ht
 obtain ⟨⟨cls2,dd2,data2,sl2⟩,ho2,hc2,n2,hd2⟩:=id ht'
 simp only at hc hd hc2 hd2
 subst hc hd hc2 hd2
 exact concat_meets ⟨_,ho,rfl⟩ ⟨_,ho2,rfl⟩ noFill_tuple_add seq_tuple_add PySem.F.slot_tuple_add PySem.F.entry_tuple_add (PySem.F.args_tuple_add_2 _ _)
   (tuple_addW0 a b #[] its2.toArray n n2 dd dd2 sl sl2 rfl) ⟨ho,ho2,⟨.ref b,H,I,rfl,q⟩⟩
noncomputable def Dt (K:PySem.W.Frag):R2:=fun x y H Q=>rI0 (fun i j=>.int (i+j)) x y H Q∨(∃ i j,x = .str i∧y = .str j∧i.length+j.length<=sizeLine∧Q (.str (i++j)) H)∨UW x y H Q∨PK K x y H Q ∨
 ∃ a b ys,x = .ref a∧y = .ref b∧SqT K H a []∧SqT K H b ys∧Q (.ref b) H
theorem aO:OpR X (binaryOp .Add) (Dt X.K):=RG.or (Bp.or (RJ.or (MP.or Iu)))
theorem aX {K:PySem.W.Frag}:bM K (r2 (Dt K)) bC:=by
 intro F H vs ds f Q r e q
 unfold bC at e
 split at e
 ·cases e
  obtain ⟨x,y,L,M,rfl,r1,r2⟩:=r.two
  cases r1.isInt;cases r2.isInt
  exact ⟨_,_,rfl,.inl ⟨_,_,rfl,rfl,q _ _ _ (.ofFlat rfl)⟩⟩
 ·obtain ⟨x,y,L,M,rfl,r1,r2⟩:=r.two
  cases r1.isStr;cases r2.isStr
  split at e
  ·cases e
   exact ⟨_,_,rfl,.inr (.inl ⟨_,_,rfl,rfl,by assumption,q _ _ _ (.ofFlat rfl)⟩)⟩
  ·cases e
 ·obtain ⟨x,y,L,M,rfl,r1,r2⟩:=r.two
  split at e
  ·rename_i hc
   cases e
   obtain ⟨a,vs,L1,rfl,ha,ra,_⟩:=r1.lst_at
   obtain ⟨b,ws,L2,rfl,hb,rb,_⟩:=r2.lst_at
   cases ra.sh_nil hc.2.1;cases rb.sh_nil hc.2.2
   refine ⟨_,_,rfl,.inr (.inr (.inl ⟨_,_,_,_,rfl,rfl,ha,hb,by rw [ra.length,rb.length];exact hc.1,fun p hp=>q _ _ _ (.list hp (ra.append rb))⟩))⟩
  ·cases e
 ·obtain ⟨x,y,L,M,rfl,r1,r2⟩:=r.two
  split at e
  ·rename_i hc
   cases e
   obtain ⟨a,vs,rfl,ha',ra⟩:=r1.tup_in
   obtain ⟨b,ws,rfl,hb',rb⟩:=r2.tup_in
   have ha:SqT K H a vs:=.of ha'
   have hb:SqT K H b ws:=.of hb'
   cases ra.sh_nil hc.2.1;cases rb.sh_nil hc.2.2
   refine ⟨_,_,rfl,.inr (.inr (.inr ?_))⟩
   by_cases e1:vs=[]
   ·subst e1
    have e2:=List.length_eq_zero_iff.mp (show _=0 from ra.length.symm)
    subst e2
    exact .inr ⟨_,_,_,rfl,rfl,ha,hb,q _ _ _ (.same (.tup hb' rb))⟩
   ·refine .inl ⟨_,_,_,_,rfl,rfl,ha,hb,e1,by rw [ra.length,rb.length];exact hc.1,fun e2=>?_,fun e2 p hp=>q _ _ _ (.tuple hp (ra.append rb))⟩
    subst e2
    have e3:=List.length_eq_zero_iff.mp (show _=0 from rb.length.symm)
    subst e3
    rw [List.append_nil] at q
    exact q _ _ _ (.same (.tup ha' ra))
  ·cases e
 ·cases e
end
noncomputable def Cd (i j:Int):Prop:=bits i+bits j<=134217728
noncomputable def my (i j:Int):Bool:=decide (bits i+bits j<=134217728)
section
variable {X:Cx}
theorem MT:OpR X (binaryOp .Mult) (rI Cd fun i j=>.int (i*j)):=opI fun _ _ _ _ _ _ _ c q=>mul_int q (IntMulOk.of_le (Nat.le_refl _) (Nat.le_refl _) c)
theorem zA (c:Cc X 34):OpR X (binaryOp .FloorDiv) (rI (fun _ j=>j≠0) fun i j=>.int (i.fdiv j)):=by
 intro pins s σ H x y v u Q I rx ry h
 obtain ⟨i,j,rfl,rfl,hj,q⟩:=h
 obtain ⟨t,rfl⟩:=rx
 obtain ⟨t',rfl⟩:=ry
 obtain ⟨env,l,e1,e2,e3,e4,e5⟩:=c.seer
 refine floordiv_int hj ⟨.int _,H,I.tok _,⟨_,rfl⟩,q⟩ (.inr (PylongRoom.of I.nolimit ?_ (SeerAt.of (I.ok.mod.seer.keeps I.bk) c.tree (I.ok.frames.trans (congrArg some e1)) e2 e3 e4 e5)))
 have:=c.room.dp
 show X.A.depth+100<recursionLimit
 omega
end
noncomputable def oR:List D->Option D
 | [.int i,.int j]=>if my i j=true then some (.int (i*j)) else none
 | [.lst _ xs,.int k]=>if (decide (-(2 ^ 63)<=k∧k<2 ^ 63∧xs.length*k.toNat<=sizeLine)&&D.shs xs)=true then some (.lst true (List.replicate k.toNat xs).flatten) else none
 | _=>none
theorem Rps.rep {K:PySem.W.Frag} {F:Addr->Prop} {H:Hp} {vs:List V} {ds:List D} (r:Rps K F H vs ds []):∀ n:Nat,Rps K F H (List.replicate n vs).flatten (List.replicate n ds).flatten []
 | 0=>.nil
 | n+1=>by
  rw [List.replicate_succ,List.replicate_succ,List.flatten_cons,List.flatten_cons]
  exact r.append (Rps.rep r n)
theorem jC {X:Cx}:OpR X (binaryOp .Mult) (fun x y H Q=>rI Cd (fun i j=>.int (i*j)) x y H Q∨Sv x y H Q):=MT.or RK
theorem lu {K:PySem.W.Frag}:bM K (r2 fun x y H Q=>rI Cd (fun i j=>.int (i*j)) x y H Q∨Sv x y H Q) oR:=by
 intro F H vs ds f Q r e q
 unfold oR at e
 split at e
 ·split at e
  ·rename_i h
   cases e
   obtain ⟨x,y,L,M,rfl,r1,r2⟩:=r.two
   cases r1.isInt;cases r2.isInt
   exact ⟨_,_,rfl,.inl ⟨_,_,rfl,rfl,(by unfold my at h;unfold Cd;exact of_decide_eq_true h),q _ _ _ (.ofFlat rfl)⟩⟩
  ·cases e
 ·split at e
  ·rename_i h
   cases e
   rw [Bool.and_eq_true,decide_eq_true_eq] at h
   obtain ⟨⟨h1,h2,h3⟩,h4⟩:=h
   obtain ⟨x,y,L,M,rfl,r1,r2⟩:=r.two
   cases r2.isInt
   obtain ⟨a,vs,L1,rfl,ha,ra,_⟩:=r1.lst_at
   cases ra.sh_nil h4
   refine ⟨_,_,rfl,.inr ⟨_,_,_,rfl,rfl,ha,h1,h2,by rw [ra.length];exact h3,fun p hp=>q _ _ _ (.list hp (ra.rep _))⟩⟩
  ·cases e
 ·cases e
noncomputable def fL (d:D):Bool:=SeqAt.shaped d.dat
noncomputable def dEq:List D->Option D
 | [d,e]=>if (fL d&&fL e)=true then some (.bl (PyData.eqv d.dat e.dat)) else none
 | _=>none
noncomputable def dNe:List D->Option D
 | [d,e]=>if (fL d&&fL e)=true then some (.bl (!PyData.eqv d.dat e.dat)) else none
 | _=>none
theorem il {K:PySem.W.Frag}:bM K (r2 (Va K)) dEq:=by
 intro F H vs ds f Q r e q
 unfold dEq at e
 split at e
 ·split at e
  ·rename_i h
   cases e
   rw [Bool.and_eq_true] at h
   obtain ⟨x,y,L,M,rfl,r1,r2⟩:=r.two
   exact ⟨_,_,rfl,_,_,r1.dp (D.pl_of _ (SeqAt.canLay_of_shaped h.1)),r2.dp (D.pl_of _ (SeqAt.canLay_of_shaped h.2)),h.1,h.2,q _ _ _ (.ofFlat rfl)⟩
  ·cases e
 ·cases e
theorem mX {K:PySem.W.Frag}:bM K (r2 (Vf K)) dNe:=by
 intro F H vs ds f Q r e q
 unfold dNe at e
 split at e
 ·split at e
  ·rename_i h
   cases e
   rw [Bool.and_eq_true] at h
   obtain ⟨x,y,L,M,rfl,r1,r2⟩:=r.two
   exact ⟨_,_,rfl,_,_,r1.dp (D.pl_of _ (SeqAt.canLay_of_shaped h.1)),r2.dp (D.pl_of _ (SeqAt.canLay_of_shaped h.2)),h.1,h.2,q _ _ _ (.ofFlat rfl)⟩
  ·cases e
 ·cases e
noncomputable def D.isNon:D->Bool
 | .non=>true
 | _=>false
noncomputable def yz:List D->Option D
 | [d,.non]=>some (.bl d.isNon)
 | _=>none
noncomputable def rR:List D->Option D
 | [d,.non]=>some (.bl (!d.isNon))
 | _=>none
theorem Rp.isNon {K:PySem.W.Frag} {F:Addr->Prop} {H:Hp} {v:V} {d:D} {L:List Addr} (r:Rp K F H v d L):decide (v = .non)=d.isNon:=by
 cases r <;> simp [D.isNon]
theorem su {K:PySem.W.Frag}:bM K (r2 fun x y H Q=>y = .non∧Q (.bl (decide (x = .non))) H) yz:=by
 intro F H vs ds f Q r e q
 unfold yz at e
 split at e
 ·cases e
  obtain ⟨x,y,L,M,rfl,r1,r2⟩:=r.two
  cases r2
  exact ⟨_,_,rfl,rfl,by rw [r1.isNon];exact q _ _ _ (.ofFlat rfl)⟩
 ·cases e
theorem vf {K:PySem.W.Frag}:bM K (r2 fun x y H Q=>y = .non∧Q (.bl (!decide (x = .non))) H) rR:=by
 intro F H vs ds f Q r e q
 unfold rR at e
 split at e
 ·cases e
  obtain ⟨x,y,L,M,rfl,r1,r2⟩:=r.two
  cases r2
  exact ⟨_,_,rfl,rfl,by rw [r1.isNon];exact q _ _ _ (.ofFlat rfl)⟩
 ·cases e
noncomputable def dIx:List D->Option D
 | [.lst _ ds,.int k]=>(atI ds k).bind fun d=>if d.sh=true then some d else none
 | [.tup ds,.int k]=>(atI ds k).bind fun d=>if d.sh=true then some d else none
 | [.scr ns,.int k]=>(atI ns k).map D.int
 | [.str z,.int k]=>if z.length<=sizeLine then (atI z.cps.toList k).map fun c=>.str ⟨#[c]⟩ else none
 | _=>none
theorem Rps.atI {K:PySem.W.Frag} {F:Addr->Prop} {H:Hp} {vs:List V} {ds:List D} {L:List Addr} {k:Int} {d:D} (r:Rps K F H vs ds L) (e:L2.atI ds k=some d):∃ v M,L2.atI vs k=some v∧Rp K F H v d M:=by
 unfold L2.atI at e ⊢
 rw [r.length]
 cases h:ixN ds.length k with
 | none=>rw [h] at e;cases e
 | some j=>
  rw [h] at e
  obtain ⟨v,M,h1,h2,_⟩:=r.get e
  exact ⟨v,M,h1,h2⟩
theorem Kv {α β : Type} (g : α -> β) (xs:List α) (k:Int):atI (xs.map g) k=(atI xs k).map g:=by
 unfold atI
 rw [List.length_map]
 cases ixN xs.length k with
 | none=>rfl
 | some j=>simp
theorem iu {K:PySem.W.Frag}:bM K (r2 (rIx K)) dIx:=by
 intro F H vs ds f Q r e q
 unfold dIx at e
 split at e
 ·obtain ⟨x,y,L,M,rfl,r1,r2⟩:=r.two
  cases r2.isInt
  obtain ⟨d,e1,e2⟩:=Option.bind_eq_some_iff.mp e
  split at e2
  ·rename_i hs
   cases e2
   obtain ⟨a,vs,L1,rfl,ha,ra,_⟩:=r1.lst_at
   obtain ⟨v,N,h1,h2⟩:=ra.atI e1
   cases h2.sh_nil hs
   exact ⟨_,_,rfl,.inl ⟨_,_,_,_,rfl,rfl,.of ha,h1,q _ _ _ (.same h2)⟩⟩
  ·cases e2
 ·obtain ⟨x,y,L,M,rfl,r1,r2⟩:=r.two
  cases r2.isInt
  obtain ⟨d,e1,e2⟩:=Option.bind_eq_some_iff.mp e
  split at e2
  ·rename_i hs
   cases e2
   obtain ⟨a,vs,rfl,ha,ra⟩:=r1.tup_at
   obtain ⟨v,N,h1,h2⟩:=ra.atI e1
   cases h2.sh_nil hs
   exact ⟨_,_,rfl,.inr (.inl ⟨_,_,_,_,rfl,rfl,ha,h1,q _ _ _ (.same h2)⟩)⟩
  ·cases e2
 ·obtain ⟨x,y,L,M,rfl,r1,r2⟩:=r.two
  cases r2.isInt
  obtain ⟨n,e1,rfl⟩:=Option.map_eq_some_iff.mp e
  cases r1 with
  | scr h=>exact ⟨_,_,rfl,.inl ⟨_,_,_,_,rfl,rfl,h.sq,by rw [Kv,e1];rfl,q _ _ _ (.ofFlat rfl)⟩⟩
 ·obtain ⟨x,y,L,M,rfl,r1,r2⟩:=r.two
  cases r1.isStr
  cases r2.isInt
  split at e
  ·rename_i hz
   obtain ⟨n,e1,rfl⟩:=Option.map_eq_some_iff.mp e
   exact ⟨_,_,rfl,.inr (.inr ⟨_,_,_,rfl,rfl,hz,e1,q _ _ _ (.ofFlat rfl)⟩)⟩
  ·cases e
 ·cases e
noncomputable def jY:List D->Option D
 | [.lst _ ds]=>some (.int ds.length)
 | [.tup ds]=>some (.int ds.length)
 | [.scr ns]=>some (.int ns.length)
 | [.str z]=>if z.length<=sizeLine then some (.int z.length) else none
 | _=>none
noncomputable def Ve (K:PySem.W.Frag):List V->Hp->VK->Prop:=fun xs H Q=>(∃ p ys,xs=[.ref p]∧(SqL K H p ys∨SqT K H p ys)∧Q (.int ys.length) H) ∨ ∃ z,xs=[.str z]∧z.length<=sizeLine∧Q (.int z.length) H
theorem dH {X:Cx}:gO X (.builtin "len") (Ve X.K):=vR.or vU
theorem iw {K:PySem.W.Frag}:bM K (Ve K) jY:=by
 intro F H vs ds f Q r e q
 unfold jY at e
 split at e
 ·cases e
  obtain ⟨x,L,rfl,r1⟩:=r.one
  obtain ⟨a,vs,L1,rfl,ha,ra,_⟩:=r1.lst_at
  exact .inl ⟨_,_,rfl,.inl (.of ha),by rw [ra.length];exact q _ _ _ (.ofFlat rfl)⟩
 ·cases e
  obtain ⟨x,L,rfl,r1⟩:=r.one
  obtain ⟨a,vs,rfl,ha,ra⟩:=r1.tup_at
  exact .inl ⟨_,_,rfl,.inr ha,by rw [ra.length];exact q _ _ _ (.ofFlat rfl)⟩
 ·cases e
  obtain ⟨x,L,rfl,r1⟩:=r.one
  cases r1 with
  | scr h=>exact .inl ⟨_,_,rfl,.inl h.sq,by rw [List.length_map];exact q _ _ _ (.ofFlat rfl)⟩
 ·obtain ⟨x,L,rfl,r1⟩:=r.one
  cases r1.isStr
  split at e
  ·rename_i hz
   cases e
   exact .inr ⟨_,rfl,hz,q _ _ _ (.ofFlat rfl)⟩
  ·cases e
 ·cases e
noncomputable abbrev eV:=En->(Bool->En->Prop)->Prop
noncomputable def oF (K:PySem.W.Frag) (t:eV):TT:=fun σ H Q=>∃ F ρ Ls R Qd,WS K F H σ ρ Ls R∧t ρ Qd ∧
 ∀ b H' ρ' F' Ls',WS K F' H' σ ρ' Ls' R->Step F H Ls F' H' Ls' []->Qd b ρ'->Q b H'
noncomputable def SB (X:Cx) (e:Expr) (t:eV):Prop:=PT X e (oF X.K t)
noncomputable def SW (X:Cx) (e:Expr) (t:eV):Prop:=PW X e (oF X.K t)
theorem SW.b {X:Cx} {e:Expr} {t:eV} (h:SW X e t):SB X e t:=PW.pt h
noncomputable def D.tru:D->Option Bool
 | .non=>some false
 | .bl b=>some b
 | .int i=>some (i != 0)
 | .str x=>if x.length<=sizeLine then some ((x.length:Int) != 0) else none
 | .tup ds=>some (!ds.isEmpty)
 | .lst _ ds=>some (!ds.isEmpty)
 | .scr ns=>some (!ns.isEmpty)
 | .ty _=>none
 | .xc _ _=>none
 | .fn _=>none
 | .dct _ _ _=>none
theorem Rps.empty {K:PySem.W.Frag} {F:Addr->Prop} {H:Hp} {vs:List V} {ds:List D} {L:List Addr} (r:Rps K F H vs ds L):ds.isEmpty=vs.isEmpty:=by
 have e:=r.length
 cases vs <;> cases ds <;> simp_all
theorem Rp.tru {K:PySem.W.Frag} {F:Addr->Prop} {H:Hp} {v:V} {d:D} {L:List Addr} {b:Bool} (r:Rp K F H v d L) (e:d.tru=some b):Qg K v H b:=by
 cases r with
 | non=>cases e;rfl
 | bl c=>cases e;rfl
 | int i=>cases e;rfl
 | str x=>
  have e':(if x.length<=sizeLine then some ((x.length:Int) != 0) else none)=some b:=e
  by_cases hz:x.length<=sizeLine
  ·rw [if_pos hz] at e';cases e';exact ⟨hz,rfl⟩
  ·rw [if_neg hz] at e';cases e'
 | ty n=>cases e
 | xc _ _ _=>cases e
 | fn _=>cases e
 | dfz _ _ _=>cases e
 | down _ _=>cases e
 | tup h r=>cases e;exact .inr (.inl ⟨_,.of h,by rw [r.empty]⟩)
 | scr h=>cases e;exact .inl ⟨_,h.sq,by simp⟩
 | frz h f r=>cases e;exact .inl ⟨_,.of h,by rw [r.empty]⟩
 | own h r=>cases e;exact .inl ⟨_,.of h,by rw [r.empty]⟩
noncomputable def eQ (o:Opd):eV:=fun ρ Q=>dD [o] ρ fun as ρ'=>∃ d b,aY ρ' as=some [d]∧d.tru=some b∧Q b ρ'
noncomputable def tB' (s:aZ):eV:=fun ρ Q=>s ρ fun d ρ'=>∃ b,d = .bl b∧Q b ρ'
noncomputable def Vz (t u:eV):eV:=fun ρ Q=>t ρ fun b ρ'=>if b=true then u ρ' Q else Q false ρ'
noncomputable def jr (t u:eV):eV:=fun ρ Q=>t ρ fun b ρ'=>if b=true then Q true ρ' else u ρ' Q
noncomputable def cP (t:eV):eV:=fun ρ Q=>t ρ fun b ρ'=>Q (!b) ρ'
section
variable {X:Cx} {a b:Expr} {o o1 o2:Opd} {pos:Pos} {t u:eV} {K:PySem.W.Frag} {σ : St} {H:Hp} {rest:List Expr}
theorem bZ (h:SO X a o) (he:∀ whole,isTrue a X.env whole=(do let v ← whole;standAt a.pos;holding [v] (truthy v)):=by intro _;rfl):SB X a (eQ o):=
 (Jk h he).wk fun σ H Q hh34=>by
  obtain ⟨F,ρ,Ls,R,Qd,w,q,k⟩:=hh34
  exact BV ⟨F,ρ,Ls,R,_,w,q,fun vs H1 as ρ1 F1 Ls1 La r1 w1 s1 hh14=>by
   obtain ⟨d,b,e1,e2,q1⟩:=hh14
   obtain ⟨x,L,rfl,rx⟩:=(r1.at w1 e1).one
   exact ⟨x,rfl,b,rx.tru e2,k b H1 ρ1 F1 Ls1 (w1.less (List.sublist_append_right _ _)) (s1.more fun a h=>absurd h (by simp)) q1⟩⟩
theorem VN {s:aZ} {Q:Bool->Hp->Prop} (h:oF K (tB' s) σ H Q):gM K s σ H fun x H'=>∃ k,x = .bl k∧Q k H':=by
 obtain ⟨F,ρ,Ls,R,Qd,w,q,k⟩:=h
 refine ⟨F,ρ,Ls,R,_,w,q,fun v H1 d ρ1 F1 Ls1 Ld r1 w1 s1 ⟨b,e,q1⟩=>?_⟩
 subst e
 cases r1
 exact ⟨b,rfl,k b H1 ρ1 F1 Ls1 w1 s1 q1⟩
theorem dm {op:CmpOp} {r:R2} {g:List D->Option D} (ho:OpR X (compareOp op) r) (hg:bM X.K (r2 r) g) (ha:SO X a o1) (hb:SO X b o2) (hm:behindInMarks op b=false):SB X (.Compare a [op] [b] pos) (tB' (sDo g [o1,o2])):=
 (Nt ho ha hb hm).wk fun σ H Q h=>tZ (gK hg (VN h))
theorem Ke {t:eV} {k:Bool->eV} {Q:Bool->Hp->Prop} (h:oF K (fun ρ Q=>t ρ fun b ρ'=>k b ρ' Q) σ H Q):oF K t σ H fun c H1=>oF K (k c) σ H1 Q:=by
 obtain ⟨F,ρ,Ls,R,Qd,w,q,kk⟩:=h
 exact ⟨F,ρ,Ls,R,_,w,q,fun c H1 ρ1 F1 Ls1 w1 s1 q1=>⟨F1,ρ1,Ls1,R,_,w1,q1,fun b H2 ρ2 F2 Ls2 w2 s2 q2=>kk b H2 ρ2 F2 Ls2 w2 (s1.trans s2) q2⟩⟩
theorem xZ {b:Bool} {Q:Bool->Hp->Prop} (h:oF K (fun ρ Q=>Q b ρ) σ H Q):Q b H:=by
 obtain ⟨F,ρ,Ls,R,Qd,w,q,kk⟩:=h
 exact kk b H ρ F Ls w Step.refl q
theorem yc {t:eV} {P P':Bool->Hp->Prop} (h:oF K t σ H P) (i:∀ b H,P b H->P' b H):oF K t σ H P':=by
 obtain ⟨F,ρ,Ls,R,Qd,w,q,k⟩:=h
 exact ⟨F,ρ,Ls,R,Qd,w,q,fun b H' ρ' F' Ls' a1 a2 a3=>i _ _ (k b H' ρ' F' Ls' a1 a2 a3)⟩
theorem gJ (ha:SB X a t):SW X (.BoolOp .Or [a] pos) t:=Su ha
theorem iJ (ha:SB X a t) (hb:SW X (.BoolOp .Or (b :: rest) pos) u):SW X (.BoolOp .Or (a :: b :: rest) pos) (jr t u):=
 (UV ha hb).wk fun σ H Q h=>yc (Ke (k:=fun b ρ Q=>if b=true then Q true ρ else u ρ Q) h) fun b H q=>by
  cases b with
  | false=>simpa using q
  | true=>simpa using xZ (by simpa using q)
theorem cC (ha:SB X a t):SB X (.UnaryOp .Not a pos) (cP t):=
 (Ss ha).wk fun σ H Q h=>yc (Ke (k:=fun b ρ Q=>Q (!b) ρ) h) fun b H q=>xZ q
end
noncomputable def jw (s u:aZ):aZ:=fun ρ Q=>s ρ fun d ρ'=>∃ c,d = .bl c∧if c=true then u ρ' Q else Q (.bl false) ρ'
noncomputable def Js (s u:aZ):aZ:=fun ρ Q=>s ρ fun d ρ'=>∃ c,d = .bl c∧if c=true then Q (.bl true) ρ' else u ρ' Q
noncomputable def DP (s:aZ):aZ:=fun ρ Q=>s ρ fun d ρ'=>∃ c,d = .bl c∧Q (.bl (!c)) ρ'
noncomputable def Gb (t:eV) (s u:aZ):aZ:=fun ρ Q=>t ρ fun c ρ'=>if c=true then s ρ' Q else u ρ' Q
section
variable {X:Cx} {a b c:Expr} {pos:Pos} {s u:aZ} {t:eV} {rest:List Expr} {K:PySem.W.Frag} {σ : St} {H:Hp}
theorem rJ {s:aZ} {P P':VK} (h:gM K s σ H P) (i:∀ v H,P v H->P' v H):gM K s σ H P':=by
 obtain ⟨F,ρ,Ls,R,Qd,w,q,k⟩:=h
 exact ⟨F,ρ,Ls,R,Qd,w,q,fun v H' d ρ' F' Ls' Ld a1 a2 a3 a4=>i _ _ (k v H' d ρ' F' Ls' Ld a1 a2 a3 a4)⟩
theorem xY {s:aZ} {k:Bool->aZ} {Q:VK} (h:gM K (fun ρ Q=>s ρ fun d ρ'=>∃ c,d = .bl c∧k c ρ' Q) σ H Q):gM K s σ H fun x H1=>∃ c,x = .bl c∧gM K (k c) σ H1 Q:=by
 obtain ⟨F,ρ,Ls,R,Qd,w,q,kk⟩:=h
 refine ⟨F,ρ,Ls,R,_,w,q,fun v H1 d ρ1 F1 Ls1 Ld r1 w1 s1 ⟨c,e,q1⟩=>?_⟩
 subst e
 cases r1
 exact ⟨c,rfl,F1,ρ1,Ls1,R,_,w1,q1,fun v2 H2 d2 ρ2 F2 Ls2 Ld2 r2 w2 s2 q2=>kk v2 H2 d2 ρ2 F2 Ls2 Ld2 r2 w2 (s1.trans s2) q2⟩
theorem Ot {t:eV} {k:Bool->aZ} {Q:VK} (h:gM K (fun ρ Q=>t ρ fun c ρ'=>k c ρ' Q) σ H Q):oF K t σ H fun c H1=>gM K (k c) σ H1 Q:=by
 obtain ⟨F,ρ,Ls,R,Qd,w,q,kk⟩:=h
 exact ⟨F,ρ,Ls,R,_,w,q,fun c H1 ρ1 F1 Ls1 w1 s1 q1=>⟨F1,ρ1,Ls1,R,_,w1,q1,fun v2 H2 d2 ρ2 F2 Ls2 Ld2 r2 w2 s2 q2=>kk v2 H2 d2 ρ2 F2 Ls2 Ld2 r2 w2 (s1.trans s2) q2⟩⟩
theorem gC {op} (h:SE X a s):SE X (.BoolOp op [a] pos) s:=RT h
theorem iV (ha:SE X a s) (hb:SE X (.BoolOp .And (b :: rest) pos) u):SE X (.BoolOp .And (a :: b :: rest) pos) (jw s u):=
 (RL ha hb).wk fun σ H Q h=>rJ (xY (k:=fun c ρ Q=>if c=true then u ρ Q else Q (.bl false) ρ) h) fun v H hh15=>by
  obtain ⟨c,e,q⟩:=hh15
  refine ⟨c,e,?_⟩
  cases c with
  | true=>simpa using q
  | false=>exact gA (d:=.bl false) rfl q
theorem Qa (ha:SE X a s) (hb:SE X (.BoolOp .Or (b :: rest) pos) u):SE X (.BoolOp .Or (a :: b :: rest) pos) (Js s u):=
 (UG ha hb).wk fun σ H Q h=>rJ (xY (k:=fun c ρ Q=>if c=true then Q (.bl true) ρ else u ρ Q) h) fun v H hh16=>by
  obtain ⟨c,e,q⟩:=hh16
  refine ⟨c,e,?_⟩
  cases c with
  | false=>simpa using q
  | true=>exact gA (d:=.bl true) rfl q
theorem SQ (ha:SE X a s):SE X (.UnaryOp .Not a pos) (DP s):=
 (RQ ha).wk fun σ H Q h=>rJ (xY (k:=fun c ρ Q=>Q (.bl (!c)) ρ) h) fun v H hh35=>by
  obtain ⟨c,e,q⟩:=hh35
  exact ⟨c,e,gA (d:=.bl (!c)) rfl q⟩
theorem Jy (hc:SB X c t) (ha:SE X a s) (hb:SE X b u):SE X (.IfExp c a b pos) (Gb t s u):=
 (IV hc ha hb).wk fun σ H Q h=>yc (Ot (k:=fun c ρ Q=>if c=true then s ρ Q else u ρ Q) h) fun c H q=>by
  cases c with
  | true=>simpa using q
  | false=>simpa using q
end
noncomputable def namsSh (ρ : En):List AD->Bool
 | []=>true
 | .val _ :: as=>namsSh ρ as
 | .nam i :: as=>(match ρ[i]? with | some (some d)=>d.sh | _=>true)&&namsSh ρ as
section
variable {K:PySem.W.Frag} {F:Addr->Prop} {H:Hp} {σ : St} {ρ : En} {Ls:Nat->List Addr} {R:List Addr}
theorem kh {a:AD} {as:List AD} {es:List D} (e:aY ρ (a :: as)=some es):∃ d ds,a.get ρ = some d∧aY ρ as=some ds∧es=d :: ds:=by
 rw [aY] at e
 cases h1:a.get ρ with
 | none=>rw [h1] at e;simp at e
 | some d=>
  cases h2:aY ρ as with
  | none=>rw [h1,h2] at e;simp at e
  | some ds=>rw [h1,h2] at e;simp at e;exact ⟨d,ds,rfl,rfl,e.symm⟩
theorem CG {i:Nat} {d:D} (e:AD.get ρ (.nam i)=some d) : ρ[i]? = some (some d):=by
 have e:(ρ[i]?).getD none=some d:=e
 cases h : ρ[i]? with
 | none=>rw [h] at e;simp at e
 | some o=>rw [h] at e;simp at e;rw [e]
theorem RpA.all (w:WS K F H σ ρ Ls R):∀ {vs:List V} {as:List AD} {La:List Addr} {ds:List D},RpA K F H σ vs as La->aY ρ as=some ds->namsSh ρ as=true->Rps K F H vs ds La:=by
 intro vs as La ds r e h
 induction r generalizing ds with
 | nil=>cases e;exact .nil
 | val r rs ih=>
  obtain ⟨d,ds,e1,e2,rfl⟩:=kh e
  cases e1
  exact .cons r (ih e2 h)
 | @nam v vs i as M hi rs ih=>
  obtain ⟨d,ds,e1,e2,rfl⟩:=kh e
  have e3:=CG e1
  rw [namsSh,e3,Bool.and_eq_true] at h
  obtain ⟨v,hv,r⟩:=w.sl i d e3
  rw [hi] at hv
  cases hv
  have r':=r;rw [r.sh_nil h.1] at r'
  exact .cons (L:=[]) r' (ih e2 h.2)
end
noncomputable def gb (os:List Opd):aZ:=fun ρ Q=>dD os ρ fun as ρ'=>∃ ds,aY ρ' as=some ds∧namsSh ρ' as=true∧ds.length<=sizeLine∧Q (.tup ds) ρ'
noncomputable def eE (os:List Opd):aZ:=fun ρ Q=>dD os ρ fun as ρ'=>∃ ds,aY ρ' as=some ds∧namsSh ρ' as=true∧ds.length<=sizeLine∧Q (.lst true ds) ρ'
section
variable {X:Cx} {es:List Expr} {os:List Opd} {pos:Pos}
theorem iI {x1} (h:SA X es os):SE X (.Tuple es x1 pos) (gb os):=
 (RV h).wk fun σ H Q hh36=>by
  obtain ⟨F,ρ,Ls,R,Qd,w,q,k⟩:=hh36
  exact ⟨F,ρ,Ls,R,_,w,q,fun vs H1 as ρ1 F1 Ls1 La r1 w1 s1 hh17=>by
   obtain ⟨ds,e1,e2,e3,q1⟩:=hh17
   have rs:=r1.all w1 e1 e2
   refine ⟨by rw [rs.length];exact e3,fun p hp=>?_⟩
   exact k (.ref p) _ (.tup ds) ρ1 F1 Ls1 La (.tup cJ (rs.laid hp)) (w1.laid hp) ((s1.trans (Step.laid hp)).more s1.srcD) q1⟩
theorem gq (h:SA X es os):SE X (.List es pos) (eE os):=
 (RN h).wk fun σ H Q hh37=>by
  obtain ⟨F,ρ,Ls,R,Qd,w,q,k⟩:=hh37
  exact ⟨F,ρ,Ls,R,_,w,q,fun vs H1 as ρ1 F1 Ls1 La r1 w1 s1 hh18=>by
   obtain ⟨ds,e1,e2,e3,q1⟩:=hh18
   have rs:=r1.all w1 e1 e2
   refine ⟨by rw [rs.length];exact e3,fun p hp=>?_⟩
   refine k (.ref p) _ (.lst true ds) ρ1 F1 Ls1 (p :: La) (.own cJ (rs.laid hp)) (w1.put hp) ((s1.trans (Step.laid hp)).more fun a ha=>?_) q1
   rcases List.mem_cons.mp ha with rfl | ha
   ·by_cases e:∃ j,a∈Ls j
    ·exact .inl e
    ·cases q:H a with
     | none=>exact .inr rfl
     | some o=>rw [s1.keep a o q fun i z=>e ⟨i,z⟩] at hp;cases hp
   ·exact s1.srcD a ha⟩
end
structure EndD where
 nx:En->Prop
 rt:D->En->Prop
 bk:En->Prop:=fun _=>False
 ct:En->Prop:=fun _=>False
noncomputable abbrev bW:=En->EndD->Prop
noncomputable def PN (K:PySem.W.Frag) (kp:Nat->Bool) (F:Addr->Prop) (H:Hp) (σ : St) (Ls:Nat->List Addr) (R:List Addr) (P:En->Prop) (P':St->Hp->Prop):Prop:=
 ∀ σ' H' ρ' F' Ls',WS K F' H' σ' ρ' Ls' R->Step F H Ls F' H' Ls' []->(∀ z,kp z=true -> σ'[z]? = σ[z]?)->P ρ'->P' σ' H'
noncomputable def PR (K:PySem.W.Frag) (kp:Nat->Bool) (F:Addr->Prop) (H:Hp) (σ : St) (Ls:Nat->List Addr) (R:List Addr) (P:D->En->Prop) (P':VK):Prop:=
 ∀ v σ' H' d ρ' F' Ls' Ld,Rp K F' H' v d Ld->WS K F' H' σ' ρ' Ls' (Ld++R)->Step F H Ls F' H' Ls' Ld->(∀ z,kp z=true -> σ'[z]? = σ[z]?)->P d ρ'->P' v H'
structure PEnds (K:PySem.W.Frag) (kp:Nat->Bool) (F:Addr->Prop) (H:Hp) (σ : St) (Ls:Nat->List Addr) (R:List Addr) (E:EndD) (D:Ends):Prop where
 nx:PN K kp F H σ Ls R E.nx D.nx
 rt:PR K kp F H σ Ls R E.rt D.rt
 bk:PN K kp F H σ Ls R E.bk D.bk
 ct:PN K kp F H σ Ls R E.ct D.ct
noncomputable def Wb (K:PySem.W.Frag) (kp:Nat->Bool) (s:bW):TS:=fun D σ H=>∃ F ρ Ls R E,WS K F H σ ρ Ls R∧s ρ E∧PEnds K kp F H σ Ls R E D
noncomputable def SS (X:Cx) (kp:Nat->Bool) (st:Stmt) (s:bW):Prop:=PS X st (Wb X.K kp s)
noncomputable def SL (X:Cx) (kp:Nat->Bool) (st:List Stmt) (s:bW):Prop:=PSs X st (Wb X.K kp s)
section
variable {K:PySem.W.Frag} {kp:Nat->Bool} {F F1:Addr->Prop} {H H1:Hp} {σ σ1:St} {Ls Ls1:Nat->List Addr} {R Ld:List Addr}
theorem PN.step {P:En->Prop} {P':St->Hp->Prop} (p:PN K kp F H σ Ls R P P') (s:Step F H Ls F1 H1 Ls1 Ld) (e:∀ z,kp z=true -> σ1[z]? = σ[z]?):PN K kp F1 H1 σ1 Ls1 R P P':=
 fun σ' H' ρ' F' Ls' w st e' q=>p σ' H' ρ' F' Ls' w (s.trans st) (fun z h=>(e' z h).trans (e z h)) q
theorem PR.step {P:D->En->Prop} {P':VK} (p:PR K kp F H σ Ls R P P') (s:Step F H Ls F1 H1 Ls1 Ld) (e:∀ z,kp z=true -> σ1[z]? = σ[z]?):PR K kp F1 H1 σ1 Ls1 R P P':=
 fun v σ' H' d ρ' F' Ls' Ld r w st e' q=>p v σ' H' d ρ' F' Ls' Ld r w (s.trans st) (fun z h=>(e' z h).trans (e z h)) q
theorem PEnds.step {E:EndD} {D:Ends} (p:PEnds K kp F H σ Ls R E D) (s:Step F H Ls F1 H1 Ls1 Ld) (e:∀ z,kp z=true -> σ1[z]? = σ[z]?):PEnds K kp F1 H1 σ1 Ls1 R E D:=
 ⟨p.nx.step s e,p.rt.step s e,p.bk.step s e,p.ct.step s e⟩
end
noncomputable def bJ:bW:=fun ρ E=>E.nx ρ
noncomputable def aC (s u:bW):bW:=fun ρ E=>s ρ { E with nx:=fun ρ'=>u ρ' E }
section
variable {X:Cx} {kp:Nat->Bool} {st:Stmt} {rest:List Stmt} {s u:bW} {pos:Pos}
theorem bT:SL X kp [] bJ:=Nq.wk fun D σ H ⟨F,ρ,Ls,R,E,w,q,p⟩=>p.nx σ H ρ F Ls w Step.refl (fun _ _=>rfl) q
theorem au (h1:SS X kp st s) (h2:SL X kp rest u):SL X kp (st :: rest) (aC s u):=
 (Jj h1 h2).wk fun D σ H hh38=>by
  obtain ⟨F,ρ,Ls,R,E,w,q,p⟩:=hh38
  exact ⟨F,ρ,Ls,R,_,w,q,
   ⟨fun σ' H' ρ' F' Ls' w' s' e' q'=>⟨F',ρ',Ls',R,E,w',q',p.step s' e'⟩,p.rt,p.bk,p.ct⟩⟩
theorem aG (h1:SS X kp st s):SL X kp [st] s:=Nr h1
noncomputable def Sy:bW:=fun ρ E=>E.bk ρ
noncomputable def Vo:bW:=fun ρ E=>E.ct ρ
noncomputable def jt:bW:=fun _ _=>False
theorem lJ:SS X kp st jt:=Jh.wk fun D σ H ⟨F,ρ,Ls,R,E,w,q,p⟩=>q.elim
noncomputable def sIf (t:eV) (s u:bW):bW:=fun ρ E=>t ρ fun b ρ'=>if b=true then s ρ' E else u ρ' E
theorem cO {c:Expr} {a b:List Stmt} {t:eV} (hc:SB X c t) (ha:SL X kp a s) (hb:SL X kp b u):SS X kp (.If c a b pos) (sIf t s u):=
 (UT hc ha hb).wk fun D σ H hh39=>by
  obtain ⟨F,ρ,Ls,R,E,w,q,p⟩:=hh39
  exact ⟨F,ρ,Ls,R,_,w,q,fun b H1 ρ1 F1 Ls1 w1 s1 q1=>by
   cases b with
   | true=>rw [if_pos rfl] at q1 ⊢;exact ⟨F1,ρ1,Ls1,R,E,w1,q1,p.step s1 fun _ _=>rfl⟩
   | false=>rw [if_neg Bool.false_ne_true] at q1 ⊢;exact ⟨F1,ρ1,Ls1,R,E,w1,q1,p.step s1 fun _ _=>rfl⟩⟩
noncomputable def dW (e:aZ):bW:=fun ρ E=>e ρ fun _ ρ'=>E.nx ρ'
theorem gh {e:Expr} {se:aZ} (he:SE X e se) (hs:swapsWith e none pos.line X.env=pure false:=by rfl):SS X kp (.Expr e pos) (dW se):=
 (Np he hs).wk fun D σ H hh40=>by
  obtain ⟨F,ρ,Ls,R,E,w,q,p⟩:=hh40
  exact ⟨F,ρ,Ls,R,_,w,q,fun v H1 d ρ1 F1 Ls1 Ld r1 w1 s1 q1=>
   p.nx σ H1 ρ1 F1 Ls1 (w1.less (List.sublist_append_right _ _)) (s1.more fun a h=>absurd h (by simp)) (fun _ _=>rfl) q1⟩
noncomputable def bR (e:aZ):bW:=fun ρ E=>e ρ fun d ρ'=>E.rt d ρ'
theorem aU {e:Expr} {se:aZ} (he:SE X e se):SS X kp (.Return (some e) pos) (bR se):=
 (Ji he).wk fun D σ H hh41=>by
  obtain ⟨F,ρ,Ls,R,E,w,q,p⟩:=hh41
  exact ⟨F,ρ,Ls,R,_,w,q,fun v H1 d ρ1 F1 Ls1 Ld r1 w1 s1 q1=>p.rt v σ H1 d ρ1 F1 Ls1 Ld r1 w1 s1 (fun _ _=>rfl) q1⟩
noncomputable def Vq:bW:=fun ρ E=>E.rt .non ρ
end
noncomputable def putL (n:Nat) (Ls:Nat->List Addr) (i:Nat) (L:List Addr):Nat->List Addr:=if i<n then jq Ls i L else Ls
section
variable {K:PySem.W.Frag} {F:Addr->Prop} {H:Hp} {σ : St} {ρ : En} {Ls:Nat->List Addr} {R Ld:List Addr}
theorem WS.set {i:Nat} {v:V} {d:D} (w:WS K F H σ ρ Ls (Ld++R)) (r:Rp K F H v d Ld):WS K F H (σ.set i (some v)) (ρ.set i (some d)) (putL ρ.length Ls i Ld) R:=by
 unfold putL
 by_cases hi:i < ρ.length
 ·rw [if_pos hi]
  have hR:=List.nodup_append.mp w.rd
  exact {
   len:=by rw [List.length_set,List.length_set];exact w.len
   sl:=fun j d' e'=>by
    by_cases h:j=i
    ·subst h
     rw [List.getElem?_set_self hi] at e'
     cases e'
     exact ⟨v,by rw [List.getElem?_set_self (by rw [← w.len];exact hi)],by rw [aH];exact r⟩
    ·rw [List.getElem?_set_ne (Ne.symm h)] at e'
     obtain ⟨u,h1,h2⟩:=w.sl j d' e'
     exact ⟨u,by rw [List.getElem?_set_ne (Ne.symm h)];exact h1,by rw [aQ h];exact h2⟩
   em:=fun j h=>by
    by_cases hj:j=i
    ·subst hj
     exact absurd (List.getElem?_set_self hi) (h d)
    ·rw [aQ hj]
     exact w.em j fun d' z=>h d' (by rw [List.getElem?_set_ne (Ne.symm hj)];exact z)
   nd:=fun j=>by
    by_cases hj:j=i
    ·rw [hj,aH];exact hR.1
    ·rw [aQ hj];exact w.nd j
   dj:=fun j k a h1 h2=>by
    by_cases hj:j=i
    ·by_cases hk:k=i
     ·rw [hj,hk]
     ·rw [hj,aH] at h1;rw [aQ hk] at h2
      exact absurd (List.mem_append_left _ h1) (w.rj k a h2)
    ·by_cases hk:k=i
     ·rw [hk,aH] at h2;rw [aQ hj] at h1
      exact absurd (List.mem_append_left _ h2) (w.rj j a h1)
     ·rw [aQ hj] at h1;rw [aQ hk] at h2;exact w.dj j k a h1 h2
   rd:=hR.2.1
   rj:=fun j a h z=>by
    by_cases hj:j=i
    ·rw [hj,aH] at h;exact hR.2.2 a h a z rfl
    ·rw [aQ hj] at h;exact w.rj j a h (List.mem_append_right _ z)
   nf:=fun j a h=>by
    by_cases hj:j=i
    ·rw [hj,aH] at h;exact w.nr a (List.mem_append_left _ h)
    ·rw [aQ hj] at h;exact w.nf j a h
   nr:=fun a z=>w.nr a (List.mem_append_right _ z)
   tr:=fun a z=>w.tr a (List.mem_append_right _ z)
   ft:=w.ft }
 ·rw [if_neg hi,List.set_eq_of_length_le (by rw [← w.len];omega),List.set_eq_of_length_le (by omega)]
  exact w.less (List.sublist_append_right _ _)
theorem zL {n i:Nat} {a:Addr} {j:Nat} (h:a∈putL n Ls i Ld j):a∈Ld∨a∈Ls j:=by
 unfold putL at h
 split at h
 ·by_cases hj:j=i
  ·rw [hj,aH] at h;exact .inl h
  ·rw [aQ hj] at h;exact .inr h
 ·exact .inr h
theorem Step.put {F1:Addr->Prop} {H1:Hp} {Ls1:Nat->List Addr} {n i:Nat} (s:Step F H Ls F1 H1 Ls1 Ld):Step F H Ls F1 H1 (putL n Ls1 i Ld) []:=
 ⟨s.keep,s.mono,fun j a h=>by
  rcases zL h with h | h
  ·exact s.srcD a h
  ·exact s.src j a h,fun a h=>absurd h (by simp)⟩
theorem Oc {kp:Nat->Bool} {σ : St} {i:Nat} {o:Option V} (h:kp i=false):∀ z,kp z=true->(σ.set i o)[z]? = σ[z]?:=fun z hz=>List.getElem?_set_ne fun e=>by subst e;rw [h] at hz;cases hz
end
noncomputable def bh (i:Nat) (e:aZ):bW:=fun ρ E=>e ρ fun d ρ'=>E.nx (ρ'.set i (some d))
noncomputable def Gx (kp:Nat->Bool) (i:Nat):Prop:=kp i=false
section
variable {X:Cx} {kp:Nat->Bool} {pos:Pos}
theorem bz {i:Nat} {x:Str} {e:Expr} {se:aZ} {pos':Pos} (hf0:Gx kp i) (hN:X.N.Nodup) (hi:X.N[i]? = some x) (hx:Loc X.env.scope x) (he:SE X e se) (hs:swapsWith e (some (.Name x pos')) pos.line X.env=pure false:=by rfl)
  (hf:X.fn x=true∨X.env.scope.names.lookup x=some .local:=by first | exact .inl rfl | exact .inr rfl | assumption):SS X kp (.Assign [.Name x pos'] e pos) (bh i se):=
 (Sh hN hi hx he hs hf).wk fun D σ H hh42=>by
  obtain ⟨F,ρ,Ls,R,E,w,q,p⟩:=hh42
  exact ⟨F,ρ,Ls,R,_,w,q,fun v H1 d ρ1 F1 Ls1 Ld r1 w1 s1 q1=>
   p.nx _ H1 _ F1 _ (w1.set r1) s1.put (Oc hf0) q1⟩
end
noncomputable abbrev dY:=D->En->(En->Prop)->Prop
noncomputable def Ab (K:PySem.W.Frag) (kp:Nat->Bool) (g:dY):TG:=fun v σ H Q=>∃ F ρ Ls R Qd d Ld,WS K F H σ ρ Ls (Ld++R)∧Rp K F H v d Ld∧g d ρ Qd ∧
 ∀ σ' ρ' Ls',WS K F H σ' ρ' Ls' R->(∀ i a,a∈Ls' i->a∈Ld ∨ ∃ j,a∈Ls j)->(∀ z,kp z=true -> σ'[z]? = σ[z]?) -> σ'.length = σ.length->Qd ρ'->Q σ' H
noncomputable def SG (X:Cx) (kp:Nat->Bool) (t:Expr) (g:dY):Prop:=PG X t (Ab X.K kp g)
noncomputable def gN (i:Nat):dY:=fun d ρ Q=>Q (ρ.set i (some d))
noncomputable def gGo:List dY->List D->En->(En->Prop)->Prop
 | [],[],ρ,Q=>Q ρ
 | g :: gs,d :: ds,ρ,Q=>g d ρ fun ρ'=>gGo gs ds ρ' Q
 | _,_,_,_=>False
noncomputable def gT (gs:List dY):dY:=fun d ρ Q=>∃ ds,d = .tup ds∧gGo gs ds ρ Q
noncomputable def VP (K:PySem.W.Frag) (kp:Nat->Bool) (gs:List dY):TGs:=fun vs σ H Q=>∃ F ρ Ls R Qd ds Ld,WS K F H σ ρ Ls (Ld++R)∧Rps K F H vs ds Ld∧gGo gs ds ρ Qd ∧
 ∀ σ' ρ' Ls',WS K F H σ' ρ' Ls' R->(∀ i a,a∈Ls' i->a∈Ld ∨ ∃ j,a∈Ls j)->(∀ z,kp z=true -> σ'[z]? = σ[z]?) -> σ'.length = σ.length->Qd ρ'->Q σ' H
noncomputable def SGs (X:Cx) (kp:Nat->Bool) (ts:List Expr) (gs:List dY):Prop:=PGs X ts (VP X.K kp gs)
theorem PG.wk {X:Cx} {e:Expr} {t t':TG} (h:PG X e t) (k:∀ v σ H Q,t' v σ H Q->t v σ H Q):PG X e t':=fun pins s σ H v u Q I r q=>h pins s σ H v u Q I r (k v σ H Q q)
theorem PGs.wk {X:Cx} {e:List Expr} {t t':TGs} (h:PGs X e t) (k:∀ v σ H Q,t' v σ H Q->t v σ H Q):PGs X e t':=fun pins s σ H v u Q I r q=>h pins s σ H v u Q I r (k v σ H Q q)
section
variable {X:Cx} {kp:Nat->Bool} {pos:Pos}
theorem az {i:Nat} {x:Str} (hf0:Gx kp i) (hN:X.N.Nodup) (hi:X.N[i]? = some x) (hx:Loc X.env.scope x) (hf:X.fn x=true∨X.env.scope.names.lookup x=some .local:=by first | exact .inl rfl | exact .inr rfl | assumption):SG X kp (.Name x pos) (gN i):=
 (Ni hN hi hx hf).wk fun v σ H Q hh43=>by
  obtain ⟨F,ρ,Ls,R,Qd,d,Ld,w,r,q,k⟩:=hh43
  exact k _ _ _ (w.set r) (fun j a h=>(zL h).elim .inl fun h=>.inr ⟨j,h⟩) (Oc hf0) (by simp) q
theorem fD:SGs X kp [] []:=Nj.wk fun vs σ H Q hh19=>by
 obtain ⟨F,ρ,Ls,R,Qd,ds,Ld,w,r,q,k⟩:=hh19
 cases r with
 | nil=>exact ⟨rfl,k σ ρ Ls w (fun i a h=>.inr ⟨i,h⟩) (fun _ _=>rfl) rfl q⟩
 | cons _ _=>exact q.elim
theorem aB {e:Expr} {es:List Expr} {g:dY} {gs:List dY} (h1:SG X kp e g) (h2:SGs X kp es gs)
  (hs:(assignEach (e :: es) X.env).map (·.2)=assign e X.env :: (assignEach es X.env).map (·.2):=by rfl):SGs X kp (e :: es) (g :: gs):=
 (Jb h1 h2 hs).wk fun vs σ H Q hh20=>by
  obtain ⟨F,ρ,Ls,R,Qd,ds,Ld,w,r,q,k⟩:=hh20
  cases r with
  | nil=>exact q.elim
  | @cons v vs d ds L M r rs=>
   refine ⟨v,vs,rfl,F,ρ,Ls,M++R,_,d,L,by rw [← List.append_assoc];exact w,r,q,fun σ1 ρ1 Ls1 w1 s1 e1 l1 q1=>?_⟩
   refine ⟨F,ρ1,Ls1,R,Qd,ds,M,w1,rs,q1,fun σ2 ρ2 Ls2 w2 s2 e2 l2 q2=>k σ2 ρ2 Ls2 w2 (fun i a h=>?_) (fun z h=>(e2 z h).trans (e1 z h)) (l2.trans l1) q2⟩
   rcases s2 i a h with h | ⟨j,h⟩
   ·exact .inl (List.mem_append_right _ h)
   ·rcases s1 j a h with h | h
    ·exact .inl (List.mem_append_left _ h)
    ·exact .inr h
theorem Cv:∀ {gs:List dY} {ds:List D} {ρ : En} {Q:En->Prop},gGo gs ds ρ Q->(∀ g∈gs,∀ d ρ Q,g d ρ Q -> ∃ ρ',Q ρ')->ds.length=gs.length
 | [],[],_,_,_,_=>rfl
 | [],_ :: _,_,_,h,_=>h.elim
 | _ :: _,[],_,_,h,_=>h.elim
 | g :: gs,d :: ds,ρ,Q,h,hg=>by
  obtain ⟨ρ',h⟩:=hg g List.mem_cons_self d ρ _ h
  rw [List.length_cons,List.length_cons,Cv h fun g hg'=>hg g (List.mem_cons_of_mem _ hg')]
theorem gH {es:List Expr} {k:Nat} {gs:List dY} (hc:X.calm=true) (h:SGs X kp es gs) (hg:∀ g∈gs,∀ d ρ Q,g d ρ Q -> ∃ ρ',Q ρ')
  (hn:(assignEach es X.env).length=gs.length:=by rfl) (hst:(assignEach es X.env).findIdx? (·.1)=none:=by rfl):SG X kp (.Tuple es k pos) (gT gs):=
 (RX hc h hn hst).wk fun v σ H Q hh21=>by
  obtain ⟨F,ρ,Ls,R,Qd,d,Ld,w,r,⟨ds,e,q⟩,k⟩:=hh21
  subst e
  obtain ⟨a,vs,rfl,ha,ra⟩:=r.tup_at
  exact ⟨a,vs,rfl,ha,by rw [ra.length];exact Cv q hg,F,ρ,Ls,R,Qd,ds,Ld,w,ra,q,k⟩
noncomputable def mG (g:dY) (e:aZ):bW:=fun ρ E=>e ρ fun d ρ'=>g d ρ' E.nx
theorem jR {tg e:Expr} {se:aZ} {g:dY} (he:SE X e se) (hg:SG X kp tg g) (hs:swapsWithSole [tg] e pos.line X.env=pure false:=by rfl) (hw:swappedStores [tg] e X.env=pure none:=by rfl)
  (h1:(assignEach [tg] X.env).map (·.2)=[assign tg X.env]:=by rfl):SS X kp (.Assign [tg] e pos) (mG g se):=
 (Jf he hg hs hw h1).wk fun D σ H hh44=>by
  obtain ⟨F,ρ,Ls,R,E,w,q,p⟩:=hh44
  exact ⟨F,ρ,Ls,R,_,w,q,fun v H1 d ρ1 F1 Ls1 Ld r1 w1 s1 q1=>
   ⟨F1,ρ1,Ls1,R,_,d,Ld,w1,r1,q1,fun σ' ρ' Ls' w' s' e' _ q'=>p.nx σ' H1 ρ' F1 Ls' w' ⟨s1.keep,s1.mono,fun i a h=>(s' i a h).elim (s1.srcD a) fun ⟨j,h⟩=>s1.src j a h,fun a h=>absurd h (by simp)⟩ e' q'⟩⟩
end
noncomputable def Jt (t:eV) (b:bW):bW:=fun ρ E=>∃ I:Nat->En->Prop,(∃ m,I m ρ) ∧ ∀ m ρ,I m ρ -> t ρ fun c ρ'=>
 if c=true then b ρ' { E with nx:=fun ρ''=>∃ m',m'<m∧I m' ρ'',ct:=fun ρ''=>∃ m',m'<m∧I m' ρ'',bk:=E.nx } else E.nx ρ'
noncomputable def Keeps (F:Addr->Prop) (H:Hp) (F2:Addr->Prop) (H2:Hp):Prop:=(∀ a,F a->F2 a) ∧ ∀ a o,H a=some o->(F a∨Still o)->H2 a=some o
section
variable {K:PySem.W.Frag} {F F1 F2:Addr->Prop} {H H1 H2:Hp} {σ : St} {ρ : En} {Ls Ls1:Nat->List Addr} {R Ld:List Addr}
theorem Keeps.refl:Keeps F H F H:=⟨fun _ h=>h,fun _ _ e _=>e⟩
theorem Keeps.trans (a:Keeps F H F1 H1) (b:Keeps F1 H1 F2 H2):Keeps F H F2 H2:=⟨fun x h=>b.1 x (a.1 x h),fun x o e h=>b.2 x o (a.2 x o e h) (h.imp (a.1 x) id)⟩
theorem Step.keeps (w:WS K F H σ ρ Ls R) (s:Step F H Ls F1 H1 Ls1 Ld):Keeps F H F1 H1:=⟨s.mono,fun a o e h=>s.keep a o e fun i z=>by
 rcases h with h | h
 ·exact w.nf i a z h
 ·obtain ⟨xs,q⟩:=w.own z
  rw [e] at q;cases q;exact absurd h OL.no⟩
theorem Keeps.laid {p:Addr} {o:HO} (hn:H p=none):Keeps F H F (upd H p o):=⟨fun _ h=>h,fun a u e _=>by rw [bf (bI e hn)];exact e⟩
theorem Rp.keeps {v:V} {d:D} (r:Rp K F H v d []) (k:Keeps F H F1 H1):Rp K F1 H1 v d []:=r.mono k.1 (fun a o e h=>k.2 a o e (.inr h)) (fun a o f e=>k.2 a o e (.inl f)) fun a h=>absurd h (by simp)
theorem Rps.keeps {vs:List V} {ds:List D} (r:Rps K F H vs ds []) (k:Keeps F H F1 H1):Rps K F1 H1 vs ds []:=r.mono k.1 (fun a o e h=>k.2 a o e (.inr h)) (fun a o f e=>k.2 a o e (.inl f)) fun a h=>absurd h (by simp)
end
noncomputable abbrev lK:=En->(List D->En->Prop)->Prop
structure Wk (K:PySem.W.Frag) (F:Addr->Prop) (H:Hp) (J:It) (ds:List D):Prop where
 go:∀ i F2 H2,Keeps F H F2 H2->i<ds.length->J.go i H2
 yld:∀ i F2 H2 x H3 d,Keeps F H F2 H2->ds[i]? = some d->J.yld i H2 x H3->Rp K F2 H3 x d []∧(H3=H2 ∨ ∃ p xs,H2 p=none∧H3=upd H2 p (.tup xs))
 stop:∀ F2 H2,Keeps F H F2 H2->J.stop ds.length H2
 small:ds.length<=sizeLine
noncomputable def Tq (K:PySem.W.Frag) (s:lK):TI:=fun σ H Q=>∃ F ρ Ls R Qd,WS K F H σ ρ Ls R∧s ρ Qd ∧
 ∀ J H' ds ρ' F' Ls',WS K F' H' σ ρ' Ls' R->Step F H Ls F' H' Ls' []->Wk K F' H' J ds->Qd ds ρ'->Q J H'
noncomputable def SI (X:Cx) (tg e:Expr) (s:lK):Prop:=PI X tg e (Tq X.K s)
theorem PI.wk {X:Cx} {tg e:Expr} {t t':TI} (h:PI X tg e t) (k:∀ σ H Q,t' σ H Q->t σ H Q):PI X tg e t':=fun pins s σ H Q I q=>h pins s σ H Q I (k σ H Q q)
noncomputable def cM (s:aZ):lK:=fun ρ Q=>s ρ fun d ρ'=>match d with
 | .lst _ ds=>ds.length<=sizeLine∧Q (D.fzs ds) ρ'
 | .tup ds=>ds.length<=sizeLine∧Q (D.fzs ds) ρ'
 | .scr ns=>ns.length<=sizeLine∧Q (ns.map D.int) ρ'
 | _=>False
section
variable {X:Cx} {tg:Expr} {K:PySem.W.Frag} {F F2:Addr->Prop} {H H2:Hp}
theorem FQ {l:Expr} {tl:TE} (hl:PE X l tl):PI X tg l (fun σ H R=>tl σ H fun x H1=>∃ a,x = .ref a∧(((∃ xs,SqL X.K H1 a xs)∧R (Itl X.K a) H1)∨((∃ xs,SqT X.K H1 a xs)∧R (Itt X.K a) H1))):=by
 intro pins s σ H R I h
 refine thn (hl pins s σ H _ I h) fun v s1 hh22=>?_
 obtain ⟨x,H1,I1,r1,q1⟩:=hh22
 obtain ⟨a,e,q⟩:=q1
 subst e
 cases r1
 rcases q with ⟨⟨xs,hq⟩,q⟩ | ⟨⟨xs,hq⟩,q⟩
 ·obtain ⟨its,rv,p,hz⟩:=I1.list hq
  refine wpAny_pyIter_list p.isList ?_
  refine ⟨s1.heap.objs.size,[s1.heap.objs.size],_,_,H1,rfl,I1.kept (t':=s1.toks) fun b o e=>Heap.get?_push_of_some _ e,Gn a _,⟨_,Heap.get?_push_size _ rfl,rfl,rfl⟩,fun b hb=>?_,q⟩
  have e:b=s1.heap.objs.size:=by simpa using hb
  subst e
  exact I1.fpOk (Nat.le_refl _) (I1.hok.fresh (Nat.le_refl _))
 ·obtain ⟨its,rv,p,hz⟩:=I1.tuple hq
  refine wpAny_pyIter_tuple (show s1.heap.IsTuple a its.toArray from p) ?_
  refine ⟨s1.heap.objs.size,[s1.heap.objs.size],_,_,H1,rfl,I1.kept (t':=s1.toks) fun b o e=>Heap.get?_push_of_some _ e,uc a _,⟨_,Heap.get?_push_size _ rfl,rfl,rfl⟩,fun b hb=>?_,q⟩
  have e:b=s1.heap.objs.size:=by simpa using hb
  subst e
  exact I1.fpOk (Nat.le_refl _) (I1.hok.fresh (Nat.le_refl _))
theorem Ag {J:It} {vs:List V} {ds:List D} (Sq:Hp->Prop) (h0:∀ F2 H2,Keeps F H F2 H2->Sq H2) (hr:Rps K F H vs ds []) (hz:ds.length<=sizeLine)
  (go:∀ i H2 v,Sq H2->vs[i]? = some v->J.go i H2) (yld:∀ i H2 x H3 v,Sq H2->vs[i]? = some v->J.yld i H2 x H3->H3=H2∧x=v) (stop:∀ H2,Sq H2->J.stop vs.length H2):Wk K F H J ds where
 go:=fun i F2 H2 k hi=>by
  obtain ⟨v,_,e,_⟩:=hr.get (List.getElem?_eq_getElem hi)
  exact go i H2 v (h0 F2 H2 k) e
 yld:=fun i F2 H2 x H3 d k e y=>by
  obtain ⟨v,M,e1,r,sl⟩:=hr.get e
  obtain ⟨rfl,rfl⟩:=yld i H2 x H3 v (h0 F2 H2 k) e1 y
  have:M=[]:=List.sublist_nil.mp sl
  subst this
  exact ⟨r.keeps k,.inl rfl⟩
 stop:=fun F2 H2 k=>by rw [← hr.length];exact stop H2 (h0 F2 H2 k)
 small:=hz
theorem Rps.ints:∀ ns:List Int,Rps K F H (ns.map V.int) (ns.map D.int) []
 | []=>.nil
 | n :: ns=>.cons (L:=[]) (M:=[]) (.int n) (Rps.ints ns)
theorem cD {e:Expr} {s:aZ} (he:SE X e s):SI X tg e (cM s):=
 (FQ he).wk fun σ H Q hh45=>by
  obtain ⟨F,ρ,Ls,R,Qd,w,q,k⟩:=hh45
  exact ⟨F,ρ,Ls,R,_,w,q,fun v H1 d ρ1 F1 Ls1 Ld r1 w1 s1 q1=>by
   have w2:=w1.give
   have s2:=s1.trans (Step.give (M:=Ld))
   cases d with
   | non=>exact q1.elim
   | bl _=>exact q1.elim
   | int _=>exact q1.elim
   | str _=>exact q1.elim
   | ty _=>exact q1.elim
   | xc _ _=>exact q1.elim
   | fn _=>exact q1.elim
   | dct _ _ _=>exact q1.elim
   | lst o ds=>
    obtain ⟨hz,q1⟩:=q1
    obtain ⟨a,vs,M,rfl,ha,ra,hM⟩:=r1.lst_at
    have hF:(F1 a∨a∈Ld):=by
     cases r1 with
     | frz _ f _=>exact .inl f
     | own _ _=>exact .inr List.mem_cons_self
    have ra':=ra.freeze (F':=fun a=>F1 a∨a∈Ld) (fun _ h=>.inl h) fun b hb=>.inr (hM b hb)
    refine ⟨a,rfl,.inl ⟨⟨vs,.of ha⟩,k _ H1 _ ρ1 _ Ls1 w2 s2 (Ag (fun H2=>H2 a=some (.lst vs)) (fun F2 H2 k=>k.2 a _ ha (.inl hF)) ra' (by rw [D.fzs_eq,List.length_map];exact hz) ?_ ?_ ?_) q1⟩⟩
    ·exact fun i H2 v h e=>⟨vs,v,.of h,e⟩
    ·intro i H2 x H3 v h e y
     obtain ⟨rfl,y⟩:=y
     have:=y vs (.of h)
     rw [e] at this
     exact ⟨rfl,(Option.some.inj this).symm⟩
    ·exact fun H2 h=>⟨vs,.of h,Nat.le_refl _⟩
   | tup ds=>
    obtain ⟨hz,q1⟩:=q1
    obtain ⟨a,vs,rfl,ha,ra⟩:=r1.tup_at
    have ra':=ra.freeze (F':=fun a=>F1 a∨a∈Ld) (fun _ h=>.inl h) fun b hb=>.inr hb
    refine ⟨a,rfl,.inr ⟨⟨vs,ha⟩,k _ H1 _ ρ1 _ Ls1 w2 s2 (Ag (fun H2=>SqT X.K H2 a vs) (fun F2 H2 k=>ha.keep fun o e h=>k.2 a o e (.inr h)) ra' (by rw [D.fzs_eq,List.length_map];exact hz) ?_ ?_ ?_) q1⟩⟩
    ·exact fun i H2 v h e=>⟨vs,v,h,e⟩
    ·intro i H2 x H3 v h e y
     obtain ⟨rfl,y⟩:=y
     have:=y vs h
     rw [e] at this
     exact ⟨rfl,(Option.some.inj this).symm⟩
    ·exact fun H2 h=>⟨vs,h,Nat.le_refl _⟩
   | scr ns=>
    obtain ⟨hz,q1⟩:=q1
    cases r1 with
    | @scr a _ h=>
     refine ⟨a,rfl,.inl ⟨⟨_,h.sq⟩,k _ H1 _ ρ1 _ Ls1 w2 s2 (Ag (fun H2=>SqL X.K H2 a (ns.map V.int)) (fun F2 H2 k=>(h.keep fun o e h=>k.2 a o e (.inr h)).sq) (Rps.ints ns) (by rw [List.length_map];exact hz) ?_ ?_ ?_) q1⟩⟩
     ·exact fun i H2 v h e=>⟨_,v,h,e⟩
     ·intro i H2 x H3 v h e y
      obtain ⟨rfl,y⟩:=y
      have:=y _ h
      rw [e] at this
      exact ⟨rfl,(Option.some.inj this).symm⟩
     ·exact fun H2 h=>⟨_,h,Nat.le_refl _⟩⟩
noncomputable def ou (lo:Int) (n:Nat):List D:=(List.range n).map fun (i:Nat)=>D.int (lo+(i:Int))
noncomputable def di (o:Opd):lK:=fun ρ Q=>dD [o] ρ fun as ρ'=>∃ j:Int,aY ρ' as=some [.int j]∧(-(2 ^ 62)<=j∧j<2 ^ 62∧j.toNat<=sizeLine)∧Q (ou 0 j.toNat) ρ'
noncomputable def nj (o o':Opd):lK:=fun ρ Q=>dD [o,o'] ρ fun as ρ'=>∃ i j:Int,aY ρ' as=some [.int i,.int j]∧(-(2 ^ 62)<=i∧i<2 ^ 62 ∧ -(2 ^ 62)<=j∧j<2 ^ 62∧(j - i).toNat<=sizeLine)∧Q (ou i (j - i).toNat) ρ'
theorem Ah {lo:Int} {n:Nat} (hz:n<=sizeLine):Wk K F H (Itr lo n) (ou lo n) where
 go:=fun i F2 H2 _ hi=>by show i<n;simpa [ou] using hi
 yld:=fun i F2 H2 x H3 d _ e y=>by
  obtain ⟨rfl,rfl⟩:=y
  simp only [ou,List.getElem?_map] at e
  obtain ⟨j,e1,rfl⟩:=Option.map_eq_some_iff.mp e
  obtain ⟨h1,h2⟩:=List.getElem?_eq_some_iff.mp e1
  simp only [List.getElem_range] at h2
  subst h2
  exact ⟨.int _,.inl rfl⟩
 stop:=fun F2 H2 _=>by show n<=_;simp [ou]
 small:=by simpa [ou] using hz
theorem iW {a:Expr} {o:Opd} {p pos:Pos} (hg:Gl X "range") (hm:X.mg "range" = none) (ha:SA X [a] [o]) (hs:starEach [a] X.env=[(false,eval a X.env)]:=by rfl):SI X tg (.Call (.Name "range" p) [a] [] pos) (di o):=
 (FT hg hm ha hs).wk fun σ H Q hh46=>by
  obtain ⟨F,ρ,Ls,R,Qd,w,q,k⟩:=hh46
  exact ⟨F,ρ,Ls,R,_,w,q,fun vs H1 as ρ1 F1 Ls1 La r1 w1 s1 hh23=>by
   obtain ⟨j,e,q0,q1⟩:=hh23
   obtain ⟨x,L,rfl,rx⟩:=(r1.at w1 e).one
   cases rx.isInt
   exact ⟨_,rfl,q0.1,q0.2.1,k _ H1 _ ρ1 F1 Ls1 (w1.less (List.sublist_append_right La R)) (s1.more (Ld2:=[]) fun a h=>absurd h (by simp)) (Ah q0.2.2) q1⟩⟩
theorem Gi {a b:Expr} {o o':Opd} {p pos:Pos} (hg:Gl X "range") (hm:X.mg "range" = none) (ha:SA X [a,b] [o,o']) (hs:starEach [a,b] X.env=[(false,eval a X.env),(false,eval b X.env)]:=by rfl) (hs2:starEach [b] X.env=[(false,eval b X.env)]:=by rfl) :
  SI X tg (.Call (.Name "range" p) [a,b] [] pos) (nj o o'):=
 (FW hg hm ha hs hs2).wk fun σ H Q hh47=>by
  obtain ⟨F,ρ,Ls,R,Qd,w,q,k⟩:=hh47
  exact ⟨F,ρ,Ls,R,_,w,q,fun vs H1 as ρ1 F1 Ls1 La r1 w1 s1 hh24=>by
   obtain ⟨i,j,e,q0,q1⟩:=hh24
   obtain ⟨x,y,L,M,rfl,rx,ry⟩:=(r1.at w1 e).two
   cases rx.isInt
   cases ry.isInt
   exact ⟨_,_,rfl,⟨q0.1,q0.2.1,q0.2.2.1,q0.2.2.2.1⟩,k _ H1 _ ρ1 F1 Ls1 (w1.less (List.sublist_append_right La R)) (s1.more (Ld2:=[]) fun a h=>absurd h (by simp)) (Ah q0.2.2.2.2) q1⟩⟩
noncomputable def Wg (xs ys:List D):List D:=(xs.zip ys).map fun p=>D.tup [p.1,p.2]
noncomputable def Pq (s u:aZ):lK:=fun ρ Q=>dD [.val s,.val u] ρ fun as ρ2=>∃ o xs o' ys,as=[.val (.lst o xs),.val (.lst o' ys)]∧xs.length<=sizeLine∧Q (Wg (D.fzs xs) (D.fzs ys)) ρ2
noncomputable def Hg:Nat->List D->List D
 | _,[]=>[]
 | n,d :: ds=>.tup [.int n,d] :: Hg (n+1) ds
noncomputable def Hu (s:aZ):lK:=fun ρ Q=>dD [.val s] ρ fun as ρ2=>∃ o xs,as=[.val (.lst o xs)]∧xs.length<=sizeLine∧Q (Hg 0 (D.fzs xs)) ρ2
end
noncomputable def forL (g:dY) (b:bW):List D->En->EndD->Prop
 | [],ρ,E=>E.nx ρ
 | d :: ds,ρ,E=>g d ρ fun ρ1=>b ρ1 { E with nx:=fun ρ2=>forL g b ds ρ2 E,ct:=fun ρ2=>forL g b ds ρ2 E,bk:=E.nx }
noncomputable def iB (i:lK) (g:dY) (b:bW):bW:=fun ρ E=>i ρ fun ds ρ'=>forL g b ds ρ' E
theorem jT {X:Cx} {kp:Nat->Bool} {tg iter:Expr} {body:List Stmt} {si:lK} {g:dY} {b:bW} {pos:Pos} (hp:PassesOwn (model X.prog X.w) X.A X.env X.xe) (hc:X.calm=true) (hi:SI X tg iter si) (hg:SG X kp tg g) (hb:SL X kp body b)
  (hs:∀ x,foldedSetIterable iter X.env x=pure x:=by intro _;rfl):SS X kp (.For tg iter body [] pos) (iB si g b):=
 (Sg hp hc hi hg hb hs).wk fun D σ H hh48=>by
  obtain ⟨F,ρ,Ls,R,E,w,q,p⟩:=hh48
  exact ⟨F,ρ,Ls,R,_,w,q,fun J H1 ds ρ1 F1 Ls1 w1 s1 wk q1=>by
   refine ⟨fun i m σ' H'=>m=ds.length - i∧i<=ds.length ∧ ∃ F' ρ' Ls',WS X.K F' H' σ' ρ' Ls' R∧Step F H Ls F' H' Ls' []∧Keeps F1 H1 F' H'∧(∀ z,kp z=true -> σ'[z]? = σ[z]?)∧forL g b (ds.drop i) ρ' E,⟨ds.length,by simp,Nat.zero_le _,F1,ρ1,Ls1,w1,s1,Keeps.refl,fun _ _=>rfl,q1⟩,?_⟩
   rintro i m σ2 H2 ⟨rfl,hi,F2,ρ2,Ls2,w2,s2,k2,e2,q2⟩
   by_cases hlt:i<ds.length
   ·have hd:=List.getElem?_eq_getElem hlt
    rw [List.drop_eq_getElem_cons hlt] at q2
    refine .inr ⟨wk.go i F2 H2 k2 hlt,fun σ' H'=>∃ F' ρ' Ls',WS X.K F' H' σ' ρ' Ls' R∧Step F H Ls F' H' Ls' []∧Keeps F1 H1 F' H'∧(∀ z,kp z=true -> σ'[z]? = σ[z]?)∧forL g b (ds.drop (i+1)) ρ' E,
     fun σ' H' h=>⟨ds.length - (i+1),by omega,rfl,hlt,h⟩,fun x H3 y=>?_⟩
    obtain ⟨rx,hH⟩:=wk.yld i F2 H2 x H3 _ k2 hd y
    have w3:WS X.K F2 H3 σ2 ρ2 Ls2 R∧Step F2 H2 Ls2 F2 H3 Ls2 []∧Keeps F2 H2 F2 H3:=by
     rcases hH with rfl | ⟨p,xs,hn,rfl⟩
     ·exact ⟨w2,Step.refl,Keeps.refl⟩
     ·exact ⟨w2.laid hn,Step.laid hn,Keeps.laid hn⟩
    obtain ⟨w3,s3,k3⟩:=w3
    refine ⟨F2,ρ2,Ls2,R,_,_,[],w3,rx,q2,fun σ4 ρ4 Ls4 w4 src4 e4 _ q4=>?_⟩
    have s4:Step F H Ls F2 H3 Ls4 []:=(s2.trans s3).trans ⟨fun _ _ e _=>e,fun _ h=>h,fun j a h=>(src4 j a h).elim (fun h=>absurd h (by simp)) .inl,fun a h=>absurd h (by simp)⟩
    have e4':∀ z,kp z=true -> σ4[z]? = σ[z]?:=fun z h=>(e4 z h).trans (e2 z h)
    have p4:=p.step (σ1:=σ4) s4 e4'
    refine ⟨F2,ρ4,Ls4,R,_,w4,q4,⟨fun σ' H' ρ' F' Ls' w' s' e' q'=>?_,p4.rt,p4.nx,fun σ' H' ρ' F' Ls' w' s' e' q'=>?_⟩⟩
    ·exact ⟨F',ρ',Ls',w',s4.trans s',(k2.trans k3).trans (s'.keeps w4),fun z h=>(e' z h).trans (e4' z h),q'⟩
    ·exact ⟨F',ρ',Ls',w',s4.trans s',(k2.trans k3).trans (s'.keeps w4),fun z h=>(e' z h).trans (e4' z h),q'⟩
   ·have e:i=ds.length:=by omega
    subst e
    rw [List.drop_length] at q2
    exact .inl ⟨wk.stop F2 H2 k2,p.nx σ2 H2 ρ2 F2 Ls2 w2 s2 e2 q2⟩⟩
noncomputable def cSt (nO:Nat) (fr:List Nat) (ρ : En):En:=List.replicate nO none++fr.map fun j=>(ρ[j]?).getD none
noncomputable def wb:En->List Nat->En->En
 | ρ,j :: js,c :: cs=>wb (ρ.set j c) js cs
 | ρ,_,_=>ρ
noncomputable def iK (g:dY) (t:eV) (el:aZ):List D->En->(List D->En->Prop)->Prop
 | [],ρ,Q=>Q [] ρ
 | d :: ds,ρ,Q=>g d ρ fun ρ1=>t ρ1 fun b ρ2=>if b=true then el ρ2 fun y ρ3=>iK g t el ds ρ3 fun ys ρ4=>Q (y :: ys) ρ4 else iK g t el ds ρ2 Q
noncomputable def bN (si:lK) (nO:Nat) (fr:List Nat) (g:dY) (t:eV) (el:aZ):aZ:=fun ρ Q=>si ρ fun ds ρ1=>iK g t el ds (cSt nO fr ρ1) fun es ρc=>Q (.lst true es) (wb ρ1 fr (ρc.drop nO))
noncomputable def cI:eV:=fun ρ Q=>Q true ρ
noncomputable def SBs (X:Cx) (ifs:List Expr) (t:eV):Prop:=PTs X ifs (oF X.K t)
theorem PTs.wk {X:Cx} {e:List Expr} {t t':TT} (h:PTs X e t) (k:∀ σ H Q,t' σ H Q->t σ H Q):PTs X e t':=fun pins s σ H Q I q=>h pins s σ H Q I (k σ H Q q)
theorem bQ {X:Cx}:SBs X [] cI:=Nu.wk fun σ H Q h=>xZ h
theorem Kl:∀ {fr:List Nat} {ρ cs:En},fr.Nodup->cs.length=fr.length ->
  (wb ρ fr cs).length = ρ.length∧(∀ k j:Nat,fr[k]? = some j->j < ρ.length->(wb ρ fr cs)[j]? = cs[k]?) ∧ ∀ i:Nat,i ∉ fr->(wb ρ fr cs)[i]? = ρ[i]?
 | [],ρ,cs,_,_=>⟨by simp [wb],fun k j e=>by simp at e,fun i _=>by simp [wb]⟩
 | j :: js,ρ,[],_,e=>by simp at e
 | j :: js,ρ,c :: cs,nd,e=>by
  obtain ⟨h1,h2⟩:=List.nodup_cons.mp nd
  obtain ⟨a1,a2,a3⟩:=Kl (fr:=js) (ρ:=ρ.set j c) (cs:=cs) h2 (by simpa using e)
  refine ⟨by simp only [wb];rw [a1,List.length_set],fun k i hk hi=>?_,fun i hi=>?_⟩
  ·cases k with
   | zero=>
    simp at hk
    subst hk
    simp only [wb]
    rw [a3 j h1,List.getElem?_set_self hi];simp
   | succ k=>
    simp only [wb]
    rw [a2 k i (by simpa using hk) (by rw [List.length_set];exact hi)];simp
  ·simp only [wb]
   rw [a3 i fun z=>hi (List.mem_cons_of_mem _ z),List.getElem?_set_ne fun z=>hi (by rw [z];exact List.mem_cons_self)]
noncomputable def Lc (nO:Nat) (fr:List Nat) (Ls:Nat->List Addr):Nat->List Addr:=fun z=>if nO<=z then (match fr[z - nO]? with | some j=>Ls j | none=>[]) else []
theorem rK {nO:Nat} {fr:List Nat} {Ls:Nat->List Addr} {z:Nat} {a:Addr} (h:a∈Lc nO fr Ls z):∃ j,nO<=z∧fr[z - nO]? = some j∧a∈Ls j:=by
 unfold Lc at h
 by_cases hz:nO<=z
 ·rw [if_pos hz] at h
  cases e:fr[z - nO]? with
  | none=>rw [e] at h;simp at h
  | some j=>rw [e] at h;exact ⟨j,hz,rfl,h⟩
 ·rw [if_neg hz] at h;simp at h
theorem Ua {nO:Nat} {fr:List Nat} {Ls:Nat->List Addr} {k j:Nat} (h:fr[k]? = some j):Lc nO fr Ls (nO+k)=Ls j:=by
 unfold Lc
 rw [if_pos (Nat.le_add_right _ _),Nat.add_sub_cancel_left,h]
noncomputable def gw (n:Nat) (fr:List Nat) (Ls:Nat->List Addr):List Addr:=((List.range n).filter fun i=>decide (i ∉ fr)).flatMap Ls
theorem jJ {Ls:Nat->List Addr} (h1:∀ i,(Ls i).Nodup) (h2:∀ i j a,a∈Ls i->a∈Ls j->i=j):∀ {is:List Nat},is.Nodup->(is.flatMap Ls).Nodup
 | [],_=>by simp
 | i :: is,nd=>by
  obtain ⟨a,b⟩:=List.nodup_cons.mp nd
  rw [List.flatMap_cons,List.nodup_append]
  refine ⟨h1 i,jJ h1 h2 b,fun x hx y hy e=>?_⟩
  subst e
  obtain ⟨j,hj,hm⟩:=List.mem_flatMap.mp hy
  rw [h2 i j x hx hm] at a
  exact a hj
theorem bY {n:Nat} {fr:List Nat} {Ls:Nat->List Addr} {a:Addr}:a∈gw n fr Ls ↔ ∃ i,i<n∧i ∉ fr∧a∈Ls i:=by
 unfold gw
 rw [List.mem_flatMap]
 constructor
 ·rintro ⟨i,h1,h2⟩
  obtain ⟨h3,h4⟩:=List.mem_filter.mp h1
  exact ⟨i,List.mem_range.mp h3,of_decide_eq_true h4,h2⟩
 ·rintro ⟨i,h1,h2,h3⟩
  exact ⟨i,List.mem_filter.mpr ⟨List.mem_range.mpr h1,decide_eq_true h2⟩,h3⟩
section
variable {K:PySem.W.Frag} {F:Addr->Prop} {H:Hp} {σ : St} {ρ : En} {Ls:Nat->List Addr} {R:List Addr} {own:List Str} {fr:List Nat}
theorem Kw {nO:Nat} {z:Nat} {d:D} (e:(cSt nO fr ρ)[z]? = some (some d)):∃ j,nO<=z∧fr[z - nO]? = some j ∧ ρ[j]? = some (some d):=by
 unfold cSt at e
 by_cases hz:nO<=z
 ·rw [List.getElem?_append_right (by simpa using hz),List.length_replicate,List.getElem?_map] at e
  obtain ⟨j,e1,e2⟩:=Option.map_eq_some_iff.mp e
  refine ⟨j,hz,e1,?_⟩
  cases h : ρ[j]? with
  | none=>rw [h] at e2;simp at e2
  | some o=>rw [h] at e2;simp at e2;rw [e2]
 ·rw [List.getElem?_append_left (by simpa using hz),List.getElem?_replicate] at e
  split at e <;> simp at e
theorem Qn {nO:Nat} {k j:Nat} (h:fr[k]? = some j):(cSt nO fr ρ)[nO+k]? = some ((ρ[j]?).getD none):=by
 unfold cSt
 rw [List.getElem?_append_right (by simp),List.length_replicate,Nat.add_sub_cancel_left,List.getElem?_map,h];rfl
theorem uU {k j:Nat} (h:fr[k]? = some j):(gk own fr σ)[own.length+k]? = some ((σ[j]?).getD none):=by
 unfold gk
 rw [List.getElem?_append_right (by simp),List.length_map,Nat.add_sub_cancel_left,List.getElem?_map,h];rfl
theorem WS.block (w:WS K F H σ ρ Ls R) (nd:fr.Nodup):WS K F H (gk own fr σ) (cSt own.length fr ρ) (Lc own.length fr Ls) (gw ρ.length fr Ls++R) where
 len:=by simp [gk,cSt]
 sl:=fun z d e=>by
  obtain ⟨j,hz,e1,e2⟩:=Kw e
  obtain ⟨v,e3,r⟩:=w.sl j d e2
  have ez:z=own.length+(z - own.length):=by omega
  refine ⟨v,?_,?_⟩
  ·rw [ez,uU e1,e3];rfl
  ·rw [ez,Ua e1];exact r
 em:=fun z h=>by
  unfold Lc
  by_cases hz:own.length<=z
  ·rw [if_pos hz]
   cases e:fr[z - own.length]? with
   | none=>rfl
   | some j=>
    refine w.em j fun d e2=>h d ?_
    have ez:z=own.length+(z - own.length):=by omega
    rw [ez,Qn e,e2];rfl
  ·rw [if_neg hz]
 nd:=fun z=>by
  unfold Lc
  by_cases hz:own.length<=z
  ·rw [if_pos hz]
   cases e:fr[z - own.length]? with
   | none=>exact List.nodup_nil
   | some j=>exact w.nd j
  ·rw [if_neg hz];exact List.nodup_nil
 dj:=fun z z' a h h'=>by
  obtain ⟨j,hz,e,m⟩:=rK h
  obtain ⟨j',hz',e',m'⟩:=rK h'
  have:=w.dj j j' a m m'
  subst this
  obtain ⟨l1,g1⟩:=List.getElem?_eq_some_iff.mp e
  obtain ⟨l2,g2⟩:=List.getElem?_eq_some_iff.mp e'
  have:=(List.getElem_inj nd).mp (g1.trans g2.symm)
  omega
 rd:=by
  rw [List.nodup_append]
  refine ⟨jJ w.nd w.dj (List.nodup_range.filter _),w.rd,fun a ha b hb e=>?_⟩
  subst e
  obtain ⟨i,_,_,hi⟩:=bY.mp ha
  exact w.rj i a hi hb
 rj:=fun z a h m=>by
  obtain ⟨j,hz,e,mj⟩:=rK h
  rcases List.mem_append.mp m with m | m
  ·obtain ⟨i,_,hi,mi⟩:=bY.mp m
   rw [w.dj i j a mi mj] at hi
   exact hi (List.mem_of_getElem? e)
  ·exact w.rj j a mj m
 nf:=fun z a h=>by
  obtain ⟨j,hz,e,mj⟩:=rK h
  exact w.nf j a mj
 nr:=fun a m=>by
  rcases List.mem_append.mp m with m | m
  ·obtain ⟨i,_,hi,mi⟩:=bY.mp m
   exact w.nf i a mi
  ·exact w.nr a m
 tr:=fun a m=>by
  rcases List.mem_append.mp m with m | m
  ·obtain ⟨i,_,hi,mi⟩:=bY.mp m
   exact w.own mi
  ·exact w.tr a m
 ft:=w.ft
noncomputable def Lb (nO:Nat) (fr:List Nat) (Ls Lsc:Nat->List Addr):Nat->List Addr:=fun i=>match fr.findIdx? (· == i) with | some k=>Lsc (nO+k) | none=>Ls i
theorem sO {i k:Nat} (h:fr.findIdx? (· == i)=some k):fr[k]? = some i:=by
 obtain ⟨hk,e,_⟩:=List.findIdx?_eq_some_iff_getElem.mp h
 have:=beq_iff_eq.mp e
 rw [List.getElem?_eq_getElem hk,this]
theorem yP {i:Nat} (h:fr.findIdx? (· == i)=none):i ∉ fr:=fun m=>by
 have:=List.findIdx?_eq_none_iff.mp h i m
 simp at this
theorem WS.unblock {F':Addr->Prop} {H':Hp} {σc:St} {ρc:En} {Lsc:Nat->List Addr} {Le:List Addr} (w:WS K F H σ ρ Ls R) (nd:fr.Nodup) (hfr:∀ j∈fr,j < ρ.length)
  (w':WS K F' H' σc ρc Lsc (Le++(gw ρ.length fr Ls++R))) (s:Step F H (Lc own.length fr Ls) F' H' Lsc Le) (hσ : ∀ z,own.length<=z -> σc[z]? = (gk own fr σ)[z]?) (hl : ρc.length=own.length+fr.length) :
  WS K F' H' σ (wb ρ fr (ρc.drop own.length)) (Lb own.length fr Ls Lsc) (Le++R)∧Step F H Ls F' H' (Lb own.length fr Ls Lsc) Le:=by
 have hcs:(ρc.drop own.length).length=fr.length:=by rw [List.length_drop];omega
 obtain ⟨g1,g2,g3⟩:=Kl (ρ:=ρ) nd hcs
 have wc:=w.block (own:=own) nd
 have lb:∀ {i:Nat} {a:Addr},a∈Lb own.length fr Ls Lsc i->(∃ k,fr[k]? = some i∧a∈Lsc (own.length+k))∨(i ∉ fr∧a∈Ls i):=fun {i a} h=>by
  unfold Lb at h
  cases e:fr.findIdx? (· == i) with
  | some k=>rw [e] at h;exact .inl ⟨k,sO e,h⟩
  | none=>rw [e] at h;exact .inr ⟨yP e,h⟩
 have lb1:∀ {i k:Nat},fr[k]? = some i->Lb own.length fr Ls Lsc i=Lsc (own.length+k):=fun {i k} h=>by
  unfold Lb
  cases e:fr.findIdx? (· == i) with
  | some k'=>
   obtain ⟨l1,q1⟩:=List.getElem?_eq_some_iff.mp (sO e)
   obtain ⟨l2,q2⟩:=List.getElem?_eq_some_iff.mp h
   rw [(List.getElem_inj nd).mp (q1.trans q2.symm)]
  | none=>exact absurd (List.mem_of_getElem? h) (yP e)
 have lb2:∀ {i:Nat},i ∉ fr->Lb own.length fr Ls Lsc i=Ls i:=fun {i} h=>by
  unfold Lb
  cases e:fr.findIdx? (· == i) with
  | some k=>exact absurd (List.mem_of_getElem? (sO e)) h
  | none=>rfl
 have inR:∀ {i:Nat} {a:Addr},i ∉ fr->a∈Ls i->a∈gw ρ.length fr Ls:=fun {i a} h m=>bY.mpr ⟨i,by
  by_cases hi:i < ρ.length
  ·exact hi
  ·rw [w.em i fun d e=>by rw [List.getElem?_eq_none (by omega)] at e;cases e] at m;simp at m,h,m⟩
 refine ⟨?_,⟨fun a o e n=>s.keep a o e fun z m=>?_,s.mono,fun i a m=>?_,fun a m=>?_⟩⟩
 ·have wR:=w'.less (R':=Le++R) ((List.Sublist.refl Le).append (List.sublist_append_right _ _))
  exact {
   len:=g1.trans w.len
   sl:=fun i d e=>by
    by_cases hi:i∈fr
    ·obtain ⟨k,hk⟩:=List.getElem?_of_mem hi
     rw [g2 k i hk (hfr i hi),List.getElem?_drop] at e
     obtain ⟨v,h1,h2⟩:=w'.sl _ d e
     refine ⟨v,?_,by rw [lb1 hk];exact h2⟩
     rw [hσ _ (Nat.le_add_right _ _),uU hk] at h1
     cases h : σ[i]? with
     | none=>rw [h] at h1;simp at h1
     | some o=>rw [h] at h1;simp at h1;rw [h1]
    ·rw [g3 i hi] at e
     obtain ⟨v,h1,h2⟩:=w.sl i d e
     exact ⟨v,h1,by rw [lb2 hi];exact h2.step wc s fun a ha=>List.mem_append_left _ (inR hi ha)⟩
   em:=fun i h=>by
    by_cases hi:i∈fr
    ·obtain ⟨k,hk⟩:=List.getElem?_of_mem hi
     rw [lb1 hk]
     exact w'.em _ fun d e=>h d (by rw [g2 k i hk (hfr i hi),List.getElem?_drop];exact e)
    ·rw [lb2 hi]
     exact w.em i fun d e=>h d (by rw [g3 i hi];exact e)
   nd:=fun i=>by
    by_cases hi:i∈fr
    ·obtain ⟨k,hk⟩:=List.getElem?_of_mem hi
     rw [lb1 hk];exact w'.nd _
    ·rw [lb2 hi];exact w.nd i
   dj:=fun i j a h1 h2=>by
    rcases lb h1 with ⟨k,hk,m⟩ | ⟨hi,m⟩
    ·rcases lb h2 with ⟨k',hk',m'⟩ | ⟨hj,m'⟩
     ·have:=w'.dj _ _ a m m'
      have:k=k':=by omega
      subst this
      rw [hk] at hk'
      exact Option.some.inj hk'
     ·exact absurd (List.mem_append_right _ (List.mem_append_left _ (inR hj m'))) (w'.rj _ a m)
    ·rcases lb h2 with ⟨k',hk',m'⟩ | ⟨hj,m'⟩
     ·exact absurd (List.mem_append_right _ (List.mem_append_left _ (inR hi m))) (w'.rj _ a m')
     ·exact w.dj i j a m m'
   rd:=wR.rd
   rj:=fun i a h z=>by
    rcases lb h with ⟨k,hk,m⟩ | ⟨hi,m⟩
    ·exact wR.rj _ a m z
    ·rcases List.mem_append.mp z with z | z
     ·exact (List.nodup_append.mp w'.rd).2.2 a z a (List.mem_append_left _ (inR hi m)) rfl
     ·exact w.rj i a m z
   nf:=fun i a h=>by
    rcases lb h with ⟨k,hk,m⟩ | ⟨hi,m⟩
    ·exact w'.nf _ a m
    ·exact w'.nr a (List.mem_append_right _ (List.mem_append_left _ (inR hi m)))
   nr:=wR.nr
   tr:=wR.tr
   ft:=wR.ft }
 ·obtain ⟨j,_,_,mj⟩:=rK m
  exact n j mj
 ·rcases lb m with ⟨k,hk,m⟩ | ⟨hi,m⟩
  ·rcases s.src _ a m with ⟨j,h⟩ | h
   ·obtain ⟨j',_,_,mj⟩:=rK h
    exact .inl ⟨j',mj⟩
   ·exact .inr h
  ·exact .inl ⟨i,m⟩
 ·rcases s.srcD a m with ⟨j,h⟩ | h
  ·obtain ⟨j',_,_,mj⟩:=rK h
   exact .inl ⟨j',mj⟩
  ·exact .inr h
end
noncomputable def kpC (nO:Nat):Nat->Bool:=fun z=>decide (nO<=z)
theorem Qp {K:PySem.W.Frag} {F:Addr->Prop} {H:Hp} {σ : St} {ρ : En} {Ls:Nat->List Addr} {R:List Addr} {own:List Str} {fr:List Nat} {J:It} {ds:List D} {g:dY} {t:eV} {el:aZ} {P:List D->En->Prop} {Q:VK}
  (w:WS K F H σ ρ Ls R) (nd:fr.Nodup) (hfr:∀ j∈fr,j < ρ.length) (wk:Wk K F H J ds) (q:iK g t el ds (cSt own.length fr ρ) P)
  (fin:∀ H' F' ys es ρc Ls' Le,Rps K F' H' ys es Le->WS K F' H' σ (wb ρ fr (ρc.drop own.length)) Ls' (Le++R)->Step F H Ls F' H' Ls' Le->P es ρc -> ∀ p,H' p=none->Q (.ref p) (upd H' p (.lst ys))) :
  Pa J own fr σ (Ab K (kpC own.length) g) (oF K t) (gM K el) Q H:=by
 have wc:=w.block (own:=own) nd
 refine ⟨fun i m ys σ' H'=>m=ds.length - i∧i<=ds.length∧ys.length<=i ∧ ∃ F' ρc Lsc es Le,Rps K F' H' ys es Le∧WS K F' H' σ' ρc Lsc (Le++(gw ρ.length fr Ls++R))∧Step F H (Lc own.length fr Ls) F' H' Lsc Le∧Keeps F H F' H' ∧
  (∀ z,own.length<=z -> σ'[z]? = (gk own fr σ)[z]?) ∧ ρc.length=own.length+fr.length∧iK g t el (ds.drop i) ρc fun es' ρ'=>P (es++es') ρ',
  ⟨ds.length,by simp,Nat.zero_le _,Nat.le_refl _,F,_,_,[],[],.nil,wc,Step.refl,Keeps.refl,fun _ _=>rfl,by simp [cSt],by simpa using q⟩,?_⟩
 rintro i m ys σ1 H1 ⟨rfl,hi,hy,F1,ρ1,Ls1,es,Le,re,w1,s1,k1,e1,l1,q1⟩
 by_cases hlt:i<ds.length
 ·have hd:=List.getElem?_eq_getElem hlt
  rw [List.drop_eq_getElem_cons hlt] at q1
  refine .inr ⟨wk.go i F1 H1 k1 hlt,by have:=wk.small;omega,fun x H2 y=>?_⟩
  obtain ⟨rx,hH⟩:=wk.yld i F1 H1 x H2 _ k1 hd y
  have w2:WS K F1 H2 σ1 ρ1 Ls1 (Le++(gw ρ.length fr Ls++R))∧Step F1 H1 Ls1 F1 H2 Ls1 []∧Keeps F1 H1 F1 H2∧Rps K F1 H2 ys es Le:=by
   rcases hH with rfl | ⟨p,xs,hn,rfl⟩
   ·exact ⟨w1,Step.refl,Keeps.refl,re⟩
   ·exact ⟨w1.laid hn,Step.laid hn,Keeps.laid hn,re.laid hn⟩
  obtain ⟨w2,s2,k2,re2⟩:=w2
  refine ⟨F1,ρ1,Ls1,Le++(gw ρ.length fr Ls++R),_,_,[],w2,rx,q1,fun σ3 ρ3 Ls3 w3 src3 e3 l3 q3=>?_⟩
  have s3:Step F H (Lc own.length fr Ls) F1 H2 Ls3 Le:=((s1.trans s2).trans (Ls2:=Ls3) (F2:=F1) (H2:=H2) (Ld2:=[]) ⟨fun _ _ e _=>e,fun _ h=>h,fun j a h=>(src3 j a h).elim (fun h=>absurd h (by simp)) .inl,fun a h=>absurd h (by simp)⟩).more s1.srcD
  have e3':∀ z,own.length<=z -> σ3[z]? = (gk own fr σ)[z]?:=fun z hz=>(e3 z (decide_eq_true hz)).trans (e1 z hz)
  refine ⟨F1,ρ3,Ls3,Le++(gw ρ.length fr Ls++R),_,w3,q3,fun b H4 ρ4 F4 Ls4 w4 s4 q4=>?_⟩
  have k4:Keeps F H F4 H4:=(k1.trans k2).trans (s4.keeps w3)
  have re4:=re2.step w3 s4 fun a ha=>List.mem_append_left _ ha
  have hl3:∀ {ρ':En} {F':Addr->Prop} {H':Hp} {L':Nat->List Addr} {R':List Addr},WS K F' H' σ3 ρ' L' R' -> ρ'.length=own.length+fr.length:=fun {_ _ _ _ _} z=>by
   rw [z.len,l3,← w1.len,l1]
  cases b with
  | false=>
   dsimp only
   rw [if_neg Bool.false_ne_true] at q4 ⊢
   exact ⟨ds.length - (i+1),by omega,rfl,hlt,by omega,F4,ρ4,Ls4,es,Le,re4,w4,(s3.trans s4).more s3.srcD,k4,e3',hl3 w4,q4⟩
  | true=>
   dsimp only
   rw [if_pos rfl] at q4 ⊢
   refine ⟨F4,ρ4,Ls4,Le++(gw ρ.length fr Ls++R),_,w4,q4,fun v H5 d ρ5 F5 Ls5 Ld rv w5 s5 q5=>?_⟩
   have re5:=re4.step w4 s5 fun a ha=>List.mem_append_left _ ha
   have s45:Step F H (Lc own.length fr Ls) F4 H4 Ls4 Le:=(s3.trans s4).more s3.srcD
   refine ⟨ds.length - (i+1),by omega,rfl,hlt,by rw [List.length_append];simp;omega,F5,ρ5,Ls5,es++[d],Le++(Ld++[]),re5.append (.cons rv .nil),w5.perm ?_,?_,k4.trans (s5.keeps w4),e3',hl3 w5,?_⟩
   ·rw [List.append_nil]
    refine List.Perm.trans (List.perm_append_comm.append_right _) ?_
    rw [List.append_assoc]
   ·rw [List.append_nil];exact s45.both s5
   ·simpa using q5
 ·have e:i=ds.length:=by omega
  subst e
  rw [List.drop_length] at q1
  refine .inl ⟨wk.stop F1 H1 k1,fun p hp=>?_⟩
  obtain ⟨wf,sf⟩:=w.unblock nd hfr w1 s1 e1 l1
  rw [show es=es++[] by simp] at re
  exact fin H1 F1 ys (es++[]) ρ1 _ Le re wf sf q1 p hp
section
variable {X:Cx} {scope:Scope} {own:List Str} {fr:List Nat} {tg elt iter:Expr} {ifs:List Expr} {pos:Pos} {si:lK} {g:dY} {t:eV} {el:aZ}
theorem Ef {K:PySem.W.Frag} {σ : St} {H:Hp} {Q:VK} (nd:fr.Nodup) (hf:∀ j∈fr,j < σ.length) (h:gM K (bN si own.length fr g t el) σ H Q):JS (Tq K si) own fr (Ab K (kpC own.length) g) (oF K t) (gM K el) σ H Q:=by
 obtain ⟨F,ρ,Ls,R,Qd,w,q,k⟩:=h
 refine ⟨F,ρ,Ls,R,_,w,q,fun J H1 ds ρ1 F1 Ls1 w1 s1 wk q1=>?_⟩
 refine Qp w1 nd (fun j hj=>by rw [w1.len];exact hf j hj) wk q1 fun H2 F2 ys es ρc Ls2 Le re w2 s2 q2 p hp=>?_
 have s12:=s1.trans s2
 refine k (.ref p) _ (.lst true es) _ F2 Ls2 (p :: Le) (.own cJ (re.laid hp)) (w2.put hp) ((s12.trans (Step.laid hp)).more fun a ha=>?_) q2
 rcases List.mem_cons.mp ha with rfl | ha
 ·by_cases e:∃ j,a∈Ls j
  ·exact .inl e
  ·cases q:H a with
   | none=>exact .inr rfl
   | some o=>rw [s12.keep a o q fun i z=>e ⟨i,z⟩] at hp;cases hp
 ·exact s12.srcD a ha
theorem PE.wkI {e:Expr} {t t':TE} (h:PE X e t) (k:∀ σ H Q,σ.length=X.N.length->t' σ H Q->t σ H Q):PE X e t':=fun pins s σ H Q I q=>h pins s σ H Q I (k σ H Q I.len q)
theorem PS.wkI {e:Stmt} {t t':TS} (h:PS X e t) (k:∀ D σ H,σ.length=X.N.length->t' D σ H->t D σ H):PS X e t':=fun pins s σ H D I q=>h pins s σ H D I (k D σ H I.len q)
theorem bU (hc:X.calm=true) (hi:SI X tg iter si) (S:CScope X scope own fr) (nd:fr.Nodup) (hg:∀ cl C fp s₂ H₂,SG (X.comp scope (bD X own fr) cl C fp s₂ H₂) (kpC own.length) tg g)
  (ht:∀ cl C fp s₂ H₂,SBs (X.comp scope (bD X own fr) cl C fp s₂ H₂) ifs t) (he:∀ cl C fp s₂ H₂,SE (X.comp scope (bD X own fr) cl C fp s₂ H₂) elt el)
  (hs:∀ x,foldedSetIterable iter X.env x=pure x:=by intro _;rfl):SE X (.ListComp elt [⟨tg,iter,ifs,0⟩] scope pos) (bN si own.length fr g t el):=
 (Ng (g:=Ab X.K (kpC own.length) g) (tt:=oF X.K t) (te:=gM X.K el) hc hi S hg ht he hs).wkI fun σ H Q hl h=>Ef nd (fun j hj=>by rw [hl];exact (S.frs j hj).1) h
theorem Oi {kp:Nat->Bool} {i:Nat} {y:Str} {py spos:Pos} (hf0:Gx kp i) (hN:X.N.Nodup) (hi:X.N[i]? = some y) (hx:Loc X.env.scope y) (hc:X.calm=true) (hit:SI X tg iter si) (S:CScope X scope own fr) (nd:fr.Nodup)
  (hg:∀ cl C fp s₂ H₂,SG (X.comp scope (bD X own fr) cl C fp s₂ H₂) (kpC own.length) tg g) (ht:∀ cl C fp s₂ H₂,SBs (X.comp scope (bD X own fr) cl C fp s₂ H₂) ifs t) (he:∀ cl C fp s₂ H₂,SE (X.comp scope (bD X own fr) cl C fp s₂ H₂) elt el)
  (hsw:swapsWith (.ListComp elt [⟨tg,iter,ifs,0⟩] scope pos) (some (.Name y py)) spos.line X.env=pure true:=by rfl)
  (hs:∀ x,foldedSetIterable iter X.env x=pure x:=by intro _;rfl) (hf:X.fn y=true∨X.env.scope.names.lookup y=some .local:=by first | exact .inl rfl | exact .inr rfl | assumption) :
  SS X kp (.Assign [.Name y py] (.ListComp elt [⟨tg,iter,ifs,0⟩] scope pos) spos) (bh i (bN si own.length fr g t el)):=
 (Nm (g:=Ab X.K (kpC own.length) g) (tt:=oF X.K t) (te:=gM X.K el) hN hi hx hc hit S hg ht he hsw hs hf).wkI fun D σ H hl ⟨F,ρ,Ls,R,E,w,q,p⟩=>
  Ef nd (fun j hj=>by rw [hl];exact (S.frs j hj).1) ⟨F,ρ,Ls,R,_,w,q,fun v H1 d ρ1 F1 Ls1 Ld r1 w1 s1 q1=>p.nx _ H1 _ F1 _ (w1.set r1) s1.put (Oc hf0) q1⟩
end
noncomputable abbrev bV:=List D->(D->Option D->Prop)->Prop
noncomputable def yQ (n:Nat) (x:Option D):En:=(List.replicate n none).set 0 x
noncomputable def qQ (io:Bool) (ρ : En):Option D:=if io=true then (ρ[0]?).getD none else none
noncomputable def aW (K:PySem.W.Frag) (n:Nat) (io:Bool) (f:bV):Sp:=fun vs H Q _=>vs.length=n ∧ ∃ F ds Ls R Qd,WS K F H (vs.map some) (ds.map some) Ls R∧(∀ j,(io=true->j≠0)->Ls j=[])∧f ds Qd ∧
 ∀ v H' r x F' Ls' Lr,Rp K F' H' v r Lr->WS K F' H' (vs.map some) (yQ n x) Ls' (Lr++R)->Step F H Ls F' H' Ls' Lr->Qd r x->Q v H'
noncomputable def fnS (n m:Nat) (io:Bool) (b:bW):bV:=fun ds Q=>ds.length=n∧b (ds.map some++List.replicate m none) { nx:=fun ρ => Q .non (qQ io ρ),rt:=fun d ρ => Q d (qQ io ρ) }
noncomputable def kpF (io:Bool):Nat->Bool:=fun z=>io&&z==0
section
variable {K:PySem.W.Frag} {F:Addr->Prop} {H:Hp} {σ : St} {ρ : En} {Ls:Nat->List Addr} {R:List Addr}
theorem CJ {α : Type} {l:List (Option α)} {m i:Nat} {d : α} (e:(l++List.replicate m none)[i]? = some (some d)):l[i]? = some (some d):=by
 by_cases hi:i<l.length
 ·rw [List.getElem?_append_left hi] at e;exact e
 ·rw [List.getElem?_append_right (by omega),List.getElem?_replicate] at e
  split at e <;> simp at e
theorem WS.pad (w:WS K F H σ ρ Ls R) (m:Nat):WS K F H (σ ++ List.replicate m none) (ρ ++ List.replicate m none) Ls R:=
 { w with
   len:=by rw [List.length_append,List.length_append,w.len];simp
   sl:=fun i d e=>by
    obtain ⟨v,h1,h2⟩:=w.sl i d (CJ e)
    exact ⟨v,by rw [List.getElem?_append_left (List.getElem?_eq_some_iff.mp h1).1];exact h1,h2⟩
   em:=fun i h=>w.em i fun d e=>h d (by rw [List.getElem?_append_left (List.getElem?_eq_some_iff.mp e).1];exact e) }
theorem Hw {n i:Nat} {x:Option D} {d:D} (e:(yQ n x)[i]? = some (some d)):i=0∧0<n∧x=some d:=by
 unfold yQ at e
 by_cases hi:i=0
 ·subst hi
  cases n with
  | zero=>simp at e
  | succ n=>simp [List.replicate_succ] at e;exact ⟨rfl,Nat.succ_pos _,e⟩
 ·rw [List.getElem?_set_ne (Ne.symm hi),List.getElem?_replicate] at e
  split at e <;> simp at e
theorem wz {n:Nat} {x:Option D} (h:0<n):(yQ n x)[0]? = some x:=by
 unfold yQ
 exact List.getElem?_set_self (by simpa using h)
theorem WS.only {io:Bool} {vs:List V} {m:Nat} {R:List Addr} (w:WS K F H σ ρ Ls R) (h:∀ z,kpF io z=true -> σ[z]? = (vs.map some++List.replicate m none)[z]?) :
  ∃ Ls',WS K F H (vs.map some) (yQ vs.length (qQ io ρ)) Ls' R ∧ ∀ i a,a∈Ls' i->a∈Ls i:=by
 refine ⟨fun i=>if io=true∧i=0∧0<vs.length then Ls 0 else [],?_,fun i a m=>?_⟩
 ·have sub:∀ {i:Nat} {a:Addr},a∈(if io=true∧i=0∧0<vs.length then Ls 0 else [])->i=0∧a∈Ls 0:=fun {i a} m=>by
   by_cases c:io=true∧i=0∧0<vs.length
   ·rw [if_pos c] at m;exact ⟨c.2.1,m⟩
   ·rw [if_neg c] at m;simp at m
  exact {
   len:=by simp [yQ]
   sl:=fun i d e=>by
    obtain ⟨rfl,hn,e⟩:=Hw e
    unfold qQ at e
    by_cases hio:io=true
    ·rw [if_pos hio] at e
     have e1 : ρ[0]? = some (some d):=by
      cases q : ρ[0]? with
      | none=>rw [q] at e;simp at e
      | some o=>rw [q] at e;simp at e;rw [e]
     obtain ⟨v,h1,h2⟩:=w.sl 0 d e1
     rw [h 0 (by unfold kpF;rw [hio];rfl)] at h1
     exact ⟨v,CJ h1,by rw [if_pos ⟨hio,rfl,hn⟩];exact h2⟩
    ·rw [if_neg hio] at e;cases e
   em:=fun i hi=>by
    by_cases c:io=true∧i=0∧0<vs.length
    ·rw [if_pos c]
     refine w.em 0 fun d e=>hi d ?_
     rw [c.2.1,wz c.2.2]
     unfold qQ
     rw [if_pos c.1,e];rfl
    ·rw [if_neg c]
   nd:=fun i=>by
    by_cases c:io=true∧i=0∧0<vs.length
    ·rw [if_pos c];exact w.nd 0
    ·rw [if_neg c];exact List.nodup_nil
   dj:=fun i j a h1 h2=>(sub h1).1.trans (sub h2).1.symm
   rd:=w.rd
   rj:=fun i a m=>w.rj 0 a (sub m).2
   nf:=fun i a m=>w.nf 0 a (sub m).2
   nr:=w.nr
   tr:=w.tr
   ft:=w.ft }
 ·dsimp only at m
  by_cases c:io=true∧i=0∧0<vs.length
  ·rw [if_pos c] at m;rw [c.2.1];exact m
  ·rw [if_neg c] at m;simp at m
end
theorem Hk {CX:CXT} {P:Program} {w:World} {K:PySem.W.Frag} {mg:Str->Option Value} {base:Heap} {k:Nat} {f:Addr} {name qual:Str} {params:Arguments} {body:List Stmt} {scope:Scope} {dV kV doc pm cdv ct oc:Value} {an od:Option Addr}
  {osl:Array (Option Value)} {N ps:List Str} {io:Bool} {b:bW} (lk:K.lookup f=some ⟨oc,od,.func (PySem.W.fnOf name qual params body scope dV kV doc pm an cdv ct),osl⟩) (hcd:PySem.W.codeIn K cdv qual=true) (S:FnScope N ps scope)
  (hb:∀ (A:Around) (outer:List Env) (s:Shared) (H:Hp) (E:XK),Room k (A.deeper (envOfC qual scope s.heap.objs.size f cdv))->SL (qO CX P w K mg base N qual scope f cdv A outer s H E) (kpF io) body b) :
  FnOk P w K mg base CX (k+1) f (PySem.W.fnOf name qual params body scope dV kV doc pm an cdv ct) ps (aW K ps.length io (fnS ps.length (N.length - ps.length) io b)):=
 Pj lk hcd S (fun vs H Q E h=>h.1) fun A outer s H vs Q E hr hsp=>by
  obtain ⟨hl,F,ds,Ls,R,Qd,ws,hL,⟨hd,q⟩,fin⟩:=hsp
  refine ⟨_,hb A outer s H E hr,F,_,Ls,R,_,?_,q,⟨fun σ' H' ρ' F' Ls' w' s' e' q'=>?_,fun v σ' H' d ρ' F' Ls' Ld r' w' s' e' q'=>?_,fun _ _ _ _ _ _ _ _ z=>z.elim,fun _ _ _ _ _ _ _ _ z=>z.elim⟩⟩
  ·have:=ws.pad (N.length - ps.length)
   unfold start
   rw [hl]
   exact this
  ·obtain ⟨Ls2,w2,sub⟩:=w'.only (vs:=vs) (m:=N.length - vs.length) e'
   rw [hl] at w2
   exact fin .non H' .non _ F' Ls2 [] .non w2 ⟨s'.keep,s'.mono,fun i a m=>s'.src i a (sub i a m),fun a h=>absurd h (by simp)⟩ q'
  ·obtain ⟨Ls2,w2,sub⟩:=w'.only (vs:=vs) (m:=N.length - vs.length) e'
   rw [hl] at w2
   exact fin v H' d _ F' Ls2 Ld r' w2 ⟨s'.keep,s'.mono,fun i a m=>s'.src i a (sub i a m),s'.srcD⟩ q'
noncomputable def namsOf:List AD->List Nat
 | []=>[]
 | .val _ :: as=>namsOf as
 | .nam i :: as=>i :: namsOf as
noncomputable def dC (ρ : En):List Nat->En
 | []=>ρ
 | i :: is=>match (dC ρ is)[i]? with
  | some (some d)=>(dC ρ is).set i (some d.fz)
  | _=>dC ρ is
noncomputable def aft (ρ : En) (as:List AD) (cl:Bool):En:=if (namsSh ρ as||cl)=true then ρ else dC ρ (namsOf as)
noncomputable def aM (n:Nat) (f:bV) (os:List Opd):aZ:=fun ρ Q=>dD os ρ fun as ρ'=>∃ ds,aY ρ' as=some ds∧ds.length=n∧f (D.fzs ds) fun r _=>Q r (aft ρ' as r.clean)
noncomputable def clO:Option D->Bool
 | some d=>d.clean
 | none=>true
noncomputable def aD (n:Nat) (f:bV) (i:Nat) (os:List Opd):aZ:=fun ρ Q=>dD (.nam i :: os) ρ fun as0 ρ'=>∃ d0 as ds,as0 = .nam i :: as ∧ ρ'[i]? = some (some d0)∧aY ρ' as=some ds∧ds.length+1=n∧i ∉ namsOf as ∧
 f (d0 :: D.fzs ds) fun r x=>(namsSh ρ' as||(r.clean&&clO x))=true∧Q r (ρ'.set i x)
section
variable {K:PySem.W.Frag} {F:Addr->Prop} {H:Hp} {σ : St} {ρ : En} {Ls:Nat->List Addr} {R:List Addr}
theorem lQ (w:WS K F H σ ρ Ls R):∀ {as:List AD},namsSh ρ as=true -> ∀ i∈namsOf as,Ls i=[]
 | [],_,i,h=>absurd h (by simp [namsOf])
 | .val _ :: as,e,i,h=>lQ w (as:=as) e i h
 | .nam j :: as,e,i,h=>by
  rw [namsSh,Bool.and_eq_true] at e
  rcases List.mem_cons.mp h with z | z
  ·subst z
   cases q : ρ[i]? with
   | none=>exact w.em i fun d z=>by rw [q] at z;cases z
   | some o=>
    cases o with
    | none=>exact w.em i fun d z=>by rw [q] at z;cases z
    | some d=>
     obtain ⟨v,_,r⟩:=w.sl i d q
     rw [q] at e
     exact r.sh_nil e.1
  ·exact lQ w e.2 i z
theorem RpA.share (w:WS K F H σ ρ Ls R) {F':Addr->Prop} (hF:∀ a,F a->F' a):∀ {vs:List V} {as:List AD} {La:List Addr} {ds:List D},RpA K F H σ vs as La->aY ρ as=some ds->(∀ a∈La,F' a)->(∀ i∈namsOf as,∀ a∈Ls i,F' a)->Rps K F' H vs (D.fzs ds) []:=by
 intro vs as La ds r e h1 h2
 induction r generalizing ds with
 | nil=>cases e;rw [D.fzs];exact .nil
 | val r rs ih=>
  obtain ⟨d,ds,e1,e2,rfl⟩:=kh e
  cases e1
  rw [D.fzs]
  exact .cons (L:=[]) (M:=[]) (r.freeze hF fun a ha=>h1 a (List.mem_append_left _ ha)) (ih e2 (fun a ha=>h1 a (List.mem_append_right _ ha)) h2)
 | @nam v vs i as M hi rs ih=>
  obtain ⟨d,ds,e1,e2,rfl⟩:=kh e
  obtain ⟨v,hv,r⟩:=w.sl i d (CG e1)
  rw [hi] at hv
  cases hv
  rw [D.fzs]
  exact .cons (L:=[]) (M:=[]) (r.freeze hF (h2 i List.mem_cons_self)) (ih e2 h1 fun j hj=>h2 j (List.mem_cons_of_mem _ hj))
theorem Rps.slots {vs:List V} {ds:List D} (r:Rps K F H vs ds []):∀ (i:Nat) (d:D),(ds.map some)[i]? = some (some d) -> ∃ v,(vs.map some)[i]? = some (some v)∧Rp K F H v d []:=fun i d e=>by
 rw [List.getElem?_map] at e
 obtain ⟨d',e1,e2⟩:=Option.map_eq_some_iff.mp e
 cases e2
 obtain ⟨v,M,h1,h2,h3⟩:=r.get e1
 cases List.sublist_nil.mp h3
 exact ⟨v,by rw [List.getElem?_map,h1];rfl,h2⟩
end
section
variable {K:PySem.W.Frag} {F:Addr->Prop} {H:Hp} {σ : St} {ρ : En} {Ls:Nat->List Addr} {R:List Addr}
theorem qx:∀ is:List Nat,(dC ρ is).length = ρ.length
 | []=>rfl
 | i :: is=>by
  unfold dC
  split
  ·rw [List.length_set];exact qx is
  ·exact qx is
theorem lH:∀ (is:List Nat) (j:Nat),(j ∉ is->(dC ρ is)[j]? = ρ[j]?)∧(j∈is->(dC ρ is)[j]? = (ρ[j]?).map fun o=>o.map D.fz)
 | [],j=>⟨fun _=>rfl,fun h=>absurd h (by simp)⟩
 | i :: is,j=>by
  obtain ⟨h1,h2⟩:=lH is j
  have hi:=lH is i
  have both:(dC ρ is)[i]? = ρ[i]? ∨ (dC ρ is)[i]? = (ρ[i]?).map fun o=>o.map D.fz:=by
   by_cases m:i∈is
   ·exact .inr (hi.2 m)
   ·exact .inl (hi.1 m)
  have atI:(dC ρ (i :: is))[i]? = (ρ[i]?).map fun o=>o.map D.fz:=by
   unfold dC
   split
   ·rename_i d e
    have hl:=(List.getElem?_eq_some_iff.mp e).1
    rw [List.getElem?_set_self hl]
    rcases both with b | b
    ·rw [← b,e];rfl
    ·rw [← b,e]
     rw [e] at b
     cases q : ρ[i]? with
     | none=>rw [q] at b;cases b
     | some o=>
      rw [q] at b
      cases o with
      | none=>simp at b
      | some d'=>simp at b;rw [b,D.fz_fz]
   ·rename_i n
    cases q:(dC ρ is)[i]? with
    | none=>
     rcases both with b | b
     ·rw [← b,q];rfl
     ·rw [← b,q]
    | some o=>
     cases o with
     | none=>
      rcases both with b | b
      ·rw [← b,q];rfl
      ·rw [← b,q]
     | some d=>exact absurd q (n d)
  by_cases e:j=i
  ·subst e
   exact ⟨fun h=>absurd List.mem_cons_self h,fun _=>atI⟩
  ·have same:(dC ρ (i :: is))[j]? = (dC ρ is)[j]?:=by
    show (match (dC ρ is)[i]? with | some (some d)=>(dC ρ is).set i (some d.fz) | _=>dC ρ is)[j]? = _
    split
    ·rw [List.getElem?_set_ne (Ne.symm e)]
    ·rfl
   refine ⟨fun h=>by rw [same];exact h1 fun z=>h (List.mem_cons_of_mem _ z),fun h=>?_⟩
   rw [same]
   exact h2 ((List.mem_cons.mp h).resolve_left e)
theorem WS.shared {F':Addr->Prop} {H':Hp} {R':List Addr} {is:List Nat} (w:WS K F H σ ρ Ls R) (h:∀ i∈is,∀ d,ρ[i]? = some (some d) -> ∃ v,σ[i]? = some (some v)∧Rp K F' H' v d.fz [])
  (w':WS K F' H' σ (is.foldr (fun i ρ => ρ.set i none) ρ) (fun i=>if i∈is then [] else Ls i) R'):WS K F' H' σ (dC ρ is) (fun i=>if i∈is then [] else Ls i) R':=by
 have get:∀ (js:List Nat) (j:Nat),(j ∉ js->(js.foldr (fun i ρ => ρ.set i none) ρ)[j]? = ρ[j]?):=by
  intro js
  induction js with
  | nil=>intro j _;rfl
  | cons a js ih=>
   intro j hj
   show ((js.foldr (fun i ρ => ρ.set i none) ρ).set a none)[j]? = _
   rw [List.getElem?_set_ne fun z=>hj (by rw [z];exact List.mem_cons_self)]
   exact ih j fun z=>hj (List.mem_cons_of_mem _ z)
 exact { w' with
  len:=by rw [qx];exact w.len
  sl:=fun i d e=>by
   by_cases m:i∈is
   ·rw [(lH is i).2 m] at e
    cases q : ρ[i]? with
    | none=>rw [q] at e;cases e
    | some o=>
     rw [q] at e
     cases o with
     | none=>simp at e
     | some d'=>
      simp at e
      subst e
      obtain ⟨v,h1,h2⟩:=h i m d' q
      exact ⟨v,h1,by rw [if_pos m];exact h2⟩
   ·rw [(lH is i).1 m] at e
    exact w'.sl i d (by rw [get is i m];exact e)
  em:=fun i hi=>by
   by_cases m:i∈is
   ·rw [if_pos m]
   ·rw [if_neg m]
    refine w.em i fun d e=>hi d ?_
    rw [(lH is i).1 m];exact e }
end
section
variable {X:Cx} {CX:CXT} {k n:Nat} {f:Addr} {fd:FuncData} {ps:List Str} {sf:bV} {E:XK} {x:Str} {p pos:Pos} {e:Expr} {es:List Expr} {os:List Opd} {K:PySem.W.Frag} {σ : St} {H:Hp}
theorem Ed {Q:VK} (h:gM K (aM n sf os) σ H Q):oE K os σ H fun vs H1=>aW K n false sf (vs++[]) H1 Q E:=by
 obtain ⟨F,ρ,Ls,R,Qd,w,q,kk⟩:=h
 refine ⟨F,ρ,Ls,R,_,w,q,fun vs H1 as ρ1 F1 Ls1 La r1 w1 s1 ⟨ds,e1,hn,q1⟩=>?_⟩
 show aW K n false sf (vs++[]) H1 Q E
 rw [List.append_nil]
 have hF2:∀ a,F1 a->(F1 a∨a∈La ∨ ∃ i∈namsOf as,a∈Ls1 i):=fun a h=>.inl h
 have rs:=r1.share w1 (F':=fun a=>F1 a∨a∈La ∨ ∃ i∈namsOf as,a∈Ls1 i) hF2 e1 (fun a h=>.inr (.inl h)) fun i hi a ha=>.inr (.inr ⟨i,hi,ha⟩)
 have hlen:vs.length=n:=by rw [rs.length,D.fzs_eq,List.length_map];exact hn
 have hrd:=List.nodup_append.mp w1.rd
 have inR:∀ {i:Nat} {a:Addr},i ∉ namsOf as->a∈Ls1 i->a∈gw ρ1.length (namsOf as) Ls1:=fun {i a} h m=>bY.mpr ⟨i,by
  by_cases hi:i < ρ1.length
  ·exact hi
  ·rw [w1.em i fun d e=>by rw [List.getElem?_eq_none (by omega)] at e;cases e] at m;simp at m,h,m⟩
 have w2:WS K (fun a=>F1 a∨a∈La ∨ ∃ i∈namsOf as,a∈Ls1 i) H1 (vs.map some) ((D.fzs ds).map some) (fun _=>[]) (gw ρ1.length (namsOf as) Ls1++R):={
  len:=by rw [List.length_map,List.length_map,rs.length]
  sl:=rs.slots
  em:=fun _ _=>rfl
  nd:=fun _=>List.nodup_nil
  dj:=fun i j a h _=>absurd h (by simp)
  rd:=by
   rw [List.nodup_append]
   refine ⟨jJ w1.nd w1.dj (List.nodup_range.filter _),hrd.2.1,fun a ha b hb e=>?_⟩
   subst e
   obtain ⟨i,_,_,hi⟩:=bY.mp ha
   exact w1.rj i a hi (List.mem_append_right _ hb)
  rj:=fun i a h=>absurd h (by simp)
  nf:=fun i a h=>absurd h (by simp)
  nr:=fun a m z=>by
   rcases List.mem_append.mp m with m | m
   ·obtain ⟨i,_,hi,mi⟩:=bY.mp m
    rcases z with z | z | ⟨j,hj,z⟩
    ·exact w1.nf i a mi z
    ·exact w1.rj i a mi (List.mem_append_left _ z)
    ·rw [w1.dj i j a mi z] at hi;exact hi hj
   ·rcases z with z | z | ⟨j,hj,z⟩
    ·exact w1.nr a (List.mem_append_right _ m) z
    ·exact hrd.2.2 a z a m rfl
    ·exact w1.rj j a z (List.mem_append_right _ m)
  tr:=fun a m=>by
   rcases List.mem_append.mp m with m | m
   ·obtain ⟨i,_,hi,mi⟩:=bY.mp m
    exact w1.own mi
   ·exact w1.tr a (List.mem_append_right _ m)
  ft:=fun a z=>by
   rcases z with z | z | ⟨j,hj,z⟩
   ·exact w1.ft a z
   ·obtain ⟨xs,e⟩:=w1.tr a (List.mem_append_left _ z);rw [e];simp
   ·obtain ⟨xs,e⟩:=w1.own z;rw [e];simp }
 refine ⟨hlen,_,_,_,_,_,w2,fun _ _=>rfl,q1,fun v H' r x F' Ls' Lr rr wr sr qr=>?_⟩
 have keep:∀ a o,H1 a=some o->H' a=some o:=fun a o e=>sr.keep a o e fun _ z=>absurd z (by simp)
 have fresh:∀ a∈Lr,H1 a=none:=fun a m=>(sr.srcD a m).elim (fun ⟨_,z⟩=>absurd z (by simp)) id
 have hLr:=List.nodup_append.mp wr.rd
 have rd3:(Lr++R).Nodup:=by
  rw [List.nodup_append]
  exact ⟨hLr.1,hrd.2.1,fun a ha b hb e=>hLr.2.2 a ha b (List.mem_append_right _ hb) e⟩
 have tr3:∀ a∈Lr++R,∃ xs:OL,H' a=some xs.ho:=fun a m=>by
  rcases List.mem_append.mp m with m | m
  ·exact wr.tr a (List.mem_append_left _ m)
  ·exact wr.tr a (List.mem_append_right _ (List.mem_append_right _ m))
 have nr3:∀ a∈Lr++R,¬ F' a:=fun a m=>by
  rcases List.mem_append.mp m with m | m
  ·exact wr.nr a (List.mem_append_left _ m)
  ·exact wr.nr a (List.mem_append_right _ (List.mem_append_right _ m))
 have rj3:∀ i a,a∈Ls1 i->a ∉ Lr++R:=fun i a m z=>by
  rcases List.mem_append.mp z with z | z
  ·obtain ⟨xs,e⟩:=w1.own m;rw [fresh a z] at e;cases e
  ·exact w1.rj i a m (List.mem_append_right _ z)
 unfold aft at qr
 by_cases hc:(namsSh ρ1 as||r.clean)=true
 ·rw [if_pos hc] at qr
  rw [Bool.or_eq_true] at hc
  have r3:Rp K (fun a=>F' a ∧ ∀ i∈namsOf as,a ∉ Ls1 i) H' v r Lr:=by
   rcases hc with hc | hc
   ·exact rr.mono (fun a h=>⟨h,fun i hi z=>by rw [lQ w1 hc i hi] at z;simp at z⟩) (fun _ _ e _=>e) (fun _ _ _ e=>e) fun _ _ _ e=>e
   ·exact rr.clean hc
  have F13:∀ a,F1 a->F' a ∧ ∀ i∈namsOf as,a ∉ Ls1 i:=fun a h=>⟨sr.mono a (.inl h),fun i _ z=>w1.nf i a z h⟩
  refine kk v H' r ρ1 (fun a=>F' a ∧ ∀ i∈namsOf as,a ∉ Ls1 i) Ls1 Lr r3 ?_ ?_ qr
  ·exact {
    len:=w1.len
    sl:=fun i d e=>let ⟨u,h1,h2⟩:=w1.sl i d e;⟨u,h1,h2.mono F13 (fun a o e _=>keep a o e) (fun a o _ e=>keep a o e) fun a _ o e=>keep a o e⟩
    em:=w1.em
    nd:=w1.nd
    dj:=w1.dj
    rd:=rd3
    rj:=rj3
    nf:=fun i a m z=>by
     by_cases hi:i∈namsOf as
     ·exact z.2 i hi m
     ·exact wr.nr a (List.mem_append_right _ (List.mem_append_left _ (inR hi m))) z.1
    nr:=fun a m z=>nr3 a m z.1
    tr:=tr3
    ft:=fun a z=>wr.ft a z.1 }
  ·exact s1.trans ⟨fun a o e _=>keep a o e,F13,fun i a m=>.inl ⟨i,m⟩,fun a m=>.inr (fresh a m)⟩
 ·rw [if_neg hc] at qr
  have own2:∀ {i:Nat} {a:Addr},a∈(if i∈namsOf as then [] else Ls1 i)->i ∉ namsOf as∧a∈Ls1 i:=fun {i a} m=>by
   by_cases c:i∈namsOf as
   ·rw [if_pos c] at m;simp at m
   ·rw [if_neg c] at m;exact ⟨c,m⟩
  have F13:∀ a,F1 a->F' a:=fun a h=>sr.mono a (.inl h)
  refine kk v H' r (dC ρ1 (namsOf as)) F' (fun i=>if i∈namsOf as then [] else Ls1 i) Lr rr (w1.shared (fun i hi d e=>?_) ?_) ?_ qr
  ·obtain ⟨u,h1,h2⟩:=w1.sl i d e
   refine ⟨u,h1,?_⟩
   have:=h2.freeze (F':=F') F13 fun a ha=>sr.mono a (.inr (.inr ⟨i,hi,ha⟩))
   exact this.mono (fun _ h=>h) (fun a o e _=>keep a o e) (fun a o _ e=>keep a o e) fun a h=>absurd h (by simp)
  ·have get:∀ (js:List Nat) (j:Nat) (d:D),(js.foldr (fun i ρ => ρ.set i none) ρ1)[j]? = some (some d)->j ∉ js ∧ ρ1[j]? = some (some d):=by
    intro js
    induction js with
    | nil=>intro j d e;exact ⟨by simp,e⟩
    | cons a js ih=>
     intro j d e
     have e':((js.foldr (fun i ρ => ρ.set i none) ρ1).set a none)[j]? = some (some d):=e
     by_cases c:a=j
     ·subst c
      by_cases hl:a<(js.foldr (fun i (ρ : En)=>ρ.set i none) ρ1).length
      ·rw [List.getElem?_set_self hl] at e';cases e'
      ·rw [List.set_eq_of_length_le (by omega),List.getElem?_eq_none (by omega)] at e';cases e'
     ·rw [List.getElem?_set_ne c] at e'
      obtain ⟨h1,h2⟩:=ih j d e'
      exact ⟨fun z=>(List.mem_cons.mp z).elim (fun q=>c q.symm) h1,h2⟩
   have len:∀ js:List Nat,(js.foldr (fun i (ρ : En)=>ρ.set i none) ρ1).length = ρ1.length:=by
    intro js
    induction js with
    | nil=>rfl
    | cons a js ih=>show ((js.foldr (fun i ρ => ρ.set i none) ρ1).set a none).length=_;rw [List.length_set];exact ih
   have getN:∀ (js:List Nat) (j:Nat),j ∉ js->(js.foldr (fun i (ρ : En)=>ρ.set i none) ρ1)[j]? = ρ1[j]?:=by
    intro js
    induction js with
    | nil=>intro j _;rfl
    | cons a js ih=>
     intro j hj
     show ((js.foldr (fun i ρ => ρ.set i none) ρ1).set a none)[j]? = _
     rw [List.getElem?_set_ne fun z=>hj (by rw [z];exact List.mem_cons_self)]
     exact ih j fun z=>hj (List.mem_cons_of_mem _ z)
   exact {
    len:=(len _).trans w1.len
    sl:=fun i d e=>by
     obtain ⟨h1,h2⟩:=get _ i d e
     obtain ⟨u,h3,h4⟩:=w1.sl i d h2
     exact ⟨u,h3,by rw [if_neg h1];exact h4.mono F13 (fun a o e _=>keep a o e) (fun a o _ e=>keep a o e) fun a _ o e=>keep a o e⟩
    em:=fun i h=>by
     by_cases c:i∈namsOf as
     ·rw [if_pos c]
     ·rw [if_neg c];exact w1.em i fun d e=>h d (by rw [getN _ i c];exact e)
    nd:=fun i=>by
     by_cases c:i∈namsOf as
     ·rw [if_pos c];exact List.nodup_nil
     ·rw [if_neg c];exact w1.nd i
    dj:=fun i j a h h'=>w1.dj i j a (own2 h).2 (own2 h').2
    rd:=rd3
    rj:=fun i a m=>rj3 i a (own2 m).2
    nf:=fun i a m z=>wr.nr a (List.mem_append_right _ (List.mem_append_left _ (inR (own2 m).1 (own2 m).2))) z
    nr:=nr3
    tr:=tr3
    ft:=wr.ft }
  ·exact s1.trans ⟨fun a o e _=>keep a o e,F13,fun i a m=>.inl ⟨i,(own2 m).2⟩,fun a m=>.inr (fresh a m)⟩
theorem JX {Q:VK} {i:Nat} (h:gM K (aD n sf i os) σ H Q):oE K (.nam i :: os) σ H fun vs H1=>aW K n true sf (vs++[]) H1 Q E:=by
 obtain ⟨F,ρ,Ls,R,Qd,w,q,kk⟩:=h
 refine ⟨F,ρ,Ls,R,_,w,q,fun vs0 H1 as0 ρ1 F1 Ls1 La r0 w1 s1 ⟨d0,as,ds,e0,ei,e1,hn,hi,q1⟩=>?_⟩
 subst e0
 show aW K n true sf (vs0++[]) H1 Q E
 rw [List.append_nil]
 cases r0 with
 | @nam v0 vs _ _ _ hv r1=>
 obtain ⟨v0',hv',rp0⟩:=w1.sl i d0 ei
 rw [hv] at hv'
 cases hv'
 have hF2:∀ a,F1 a->(F1 a∨a∈La ∨ ∃ j∈namsOf as,a∈Ls1 j):=fun a h=>.inl h
 have rs:=r1.share w1 (F':=fun a=>F1 a∨a∈La ∨ ∃ j∈namsOf as,a∈Ls1 j) hF2 e1 (fun a h=>.inr (.inl h)) fun j hj a ha=>.inr (.inr ⟨j,hj,ha⟩)
 have hlen:(v0 :: vs).length=n:=by rw [List.length_cons,rs.length,D.fzs_eq,List.length_map];exact hn
 have hrd:=List.nodup_append.mp w1.rd
 have inR:∀ {j:Nat} {a:Addr},j ∉ i :: namsOf as->a∈Ls1 j->a∈gw ρ1.length (i :: namsOf as) Ls1:=fun {j a} h m=>bY.mpr ⟨j,by
  by_cases hj:j < ρ1.length
  ·exact hj
  ·rw [w1.em j fun d e=>by rw [List.getElem?_eq_none (by omega)] at e;cases e] at m;simp at m,h,m⟩
 have rp0':Rp K (fun a=>F1 a∨a∈La ∨ ∃ j∈namsOf as,a∈Ls1 j) H1 v0 d0 (Ls1 i):=rp0.mono hF2 (fun _ _ e _=>e) (fun _ _ _ e=>e) fun _ _ _ e=>e
 have l0:∀ {j:Nat} {a:Addr},a∈(if j=0 then Ls1 i else [])->j=0∧a∈Ls1 i:=fun {j a} m=>by
  by_cases c:j=0
  ·rw [if_pos c] at m;exact ⟨c,m⟩
  ·rw [if_neg c] at m;simp at m
 have w2:WS K (fun a=>F1 a∨a∈La ∨ ∃ j∈namsOf as,a∈Ls1 j) H1 ((v0 :: vs).map some) ((d0 :: D.fzs ds).map some) (fun j=>if j=0 then Ls1 i else []) (gw ρ1.length (i :: namsOf as) Ls1++R):={
  len:=by rw [List.length_map,List.length_map,List.length_cons,List.length_cons,rs.length]
  sl:=fun j d e=>by
   cases j with
   | zero=>simp at e;subst e;exact ⟨v0,rfl,rp0'⟩
   | succ j=>
    obtain ⟨u,h1,h2⟩:=rs.slots j d (by simpa using e)
    exact ⟨u,by simpa using h1,by simpa using h2⟩
  em:=fun j h=>by
   cases j with
   | zero=>exact absurd rfl (h d0)
   | succ j=>rfl
  nd:=fun j=>by
   by_cases c:j=0
   ·rw [if_pos c];exact w1.nd i
   ·rw [if_neg c];exact List.nodup_nil
  dj:=fun j j' a h h'=>(l0 h).1.trans (l0 h').1.symm
  rd:=by
   rw [List.nodup_append]
   refine ⟨jJ w1.nd w1.dj (List.nodup_range.filter _),hrd.2.1,fun a ha b hb e=>?_⟩
   subst e
   obtain ⟨j,_,_,hj⟩:=bY.mp ha
   exact w1.rj j a hj (List.mem_append_right _ hb)
  rj:=fun j a h m=>by
   have hm:=(l0 h).2
   rcases List.mem_append.mp m with m | m
   ·obtain ⟨j',_,hj,mj⟩:=bY.mp m
    exact hj (by rw [w1.dj j' i a mj hm];exact List.mem_cons_self)
   ·exact w1.rj i a hm (List.mem_append_right _ m)
  nf:=fun j a h z=>by
   have hm:=(l0 h).2
   rcases z with z | z | ⟨j',hj,z⟩
   ·exact w1.nf i a hm z
   ·exact w1.rj i a hm (List.mem_append_left _ z)
   ·exact hi (by rw [w1.dj i j' a hm z];exact hj)
  nr:=fun a m z=>by
   rcases List.mem_append.mp m with m | m
   ·obtain ⟨j,_,hj,mj⟩:=bY.mp m
    rcases z with z | z | ⟨j',hj',z⟩
    ·exact w1.nf j a mj z
    ·exact w1.rj j a mj (List.mem_append_left _ z)
    ·rw [w1.dj j j' a mj z] at hj;exact hj (List.mem_cons_of_mem _ hj')
   ·rcases z with z | z | ⟨j',hj',z⟩
    ·exact w1.nr a (List.mem_append_right _ m) z
    ·exact hrd.2.2 a z a m rfl
    ·exact w1.rj j' a z (List.mem_append_right _ m)
  tr:=fun a m=>by
   rcases List.mem_append.mp m with m | m
   ·obtain ⟨j,_,hj,mj⟩:=bY.mp m
    exact w1.own mj
   ·exact w1.tr a (List.mem_append_right _ m)
  ft:=fun a z=>by
   rcases z with z | z | ⟨j,hj,z⟩
   ·exact w1.ft a z
   ·obtain ⟨xs,e⟩:=w1.tr a (List.mem_append_left _ z);rw [e];simp
   ·obtain ⟨xs,e⟩:=w1.own z;rw [e];simp }
 refine ⟨hlen,_,_,_,_,_,w2,fun j hj=>if_neg (hj rfl),q1,fun v H' r x F' Ls' Lr rr wr sr qr=>?_⟩
 obtain ⟨hc,qr⟩:=qr
 have keep:∀ a o,H1 a=some o->a ∉ Ls1 i->H' a=some o:=fun a o e n=>sr.keep a o e fun _ z=>n (l0 z).2
 have fresh:∀ a∈Lr,a∈Ls1 i∨H1 a=none:=fun a m=>(sr.srcD a m).imp (fun ⟨_,z⟩=>(l0 z).2) id
 have fresh0:∀ a∈Ls' 0,a∈Ls1 i∨H1 a=none:=fun a m=>(sr.src 0 a m).imp (fun ⟨_,z⟩=>(l0 z).2) id
 have cl:∀ {u:V} {y:D} {L:List Addr},Rp K F' H' u y L->(namsSh ρ1 as=true∨y.clean=true)->Rp K (fun a=>F' a ∧ ∀ j∈namsOf as,a ∉ Ls1 j) H' u y L:=fun {u y L} rr hc=>by
  rcases hc with hc | hc
  ·exact rr.mono (fun a h=>⟨h,fun j hj z=>by rw [lQ w1 hc j hj] at z;simp at z⟩) (fun _ _ e _=>e) (fun _ _ _ e=>e) fun _ _ _ e=>e
  ·exact rr.clean hc
 rw [Bool.or_eq_true,Bool.and_eq_true] at hc
 have r3:=cl rr (hc.imp id (·.1))
 have hLr:=List.nodup_append.mp wr.rd
 have F13:∀ a,F1 a->F' a ∧ ∀ j∈namsOf as,a ∉ Ls1 j:=fun a h=>⟨sr.mono a (.inl h),fun j _ z=>w1.nf j a z h⟩
 have hpos:0<n:=by omega
 have hil:i < ρ1.length:=(List.getElem?_eq_some_iff.mp ei).1
 have src:∀ {j:Nat} {a:Addr},a∈jq Ls1 i (Ls' 0) j->(j=i∧a∈Ls' 0)∨(j≠i∧a∈Ls1 j):=fun {j a} m=>by
  by_cases c:j=i
  ·rw [c,aH] at m;exact .inl ⟨c,m⟩
  ·rw [aQ c] at m;exact .inr ⟨c,m⟩
 have out:∀ {j:Nat} {a:Addr},j≠i->a∈Ls1 j->a ∉ Ls' 0∧a ∉ Lr:=fun {j a} c m=>by
  have h:a ∉ Ls1 i∧H1 a≠none:=⟨fun z=>c (w1.dj j i a m z),by obtain ⟨xs,e⟩:=w1.own m;rw [e];simp⟩
  exact ⟨fun z=>(fresh0 a z).elim h.1 h.2,fun z=>(fresh a z).elim h.1 h.2⟩
 refine kk v H' r (ρ1.set i x) (fun a=>F' a ∧ ∀ j∈namsOf as,a ∉ Ls1 j) (jq Ls1 i (Ls' 0)) Lr r3 ?_ ?_ qr
 ·exact {
   len:=by rw [List.length_set];exact w1.len
   sl:=fun j d e=>by
    by_cases c:j=i
    ·subst c
     rw [List.getElem?_set_self hil] at e
     have ex:x=some d:=Option.some.inj e
     obtain ⟨u,h1,h2⟩:=wr.sl 0 d (by rw [wz hpos,ex])
     have:u=v0:=by simpa using h1.symm
     subst this
     exact ⟨u,hv,by rw [aH];exact cl h2 (hc.imp id fun h=>by have:=h.2;rw [ex] at this;exact this)⟩
    ·rw [List.getElem?_set_ne (Ne.symm c)] at e
     obtain ⟨u,h1,h2⟩:=w1.sl j d e
     refine ⟨u,h1,?_⟩
     rw [aQ c]
     refine h2.mono F13 (fun a o e st=>keep a o e fun z=>?_) (fun a o f e=>keep a o e fun z=>w1.nf i a z f) fun a ha o e=>keep a o e fun z=>c (w1.dj j i a ha z)
     obtain ⟨xs,q⟩:=w1.own z
     rw [e] at q;cases q;exact absurd st OL.no
   em:=fun j h=>by
    by_cases c:j=i
    ·subst c
     rw [aH]
     refine wr.em 0 fun d e=>h d ?_
     rw [wz hpos] at e
     rw [List.getElem?_set_self hil,Option.some.inj e]
    ·rw [aQ c]
     exact w1.em j fun d e=>h d (by rw [List.getElem?_set_ne (Ne.symm c)];exact e)
   nd:=fun j=>by
    by_cases c:j=i
    ·rw [c,aH];exact wr.nd 0
    ·rw [aQ c];exact w1.nd j
   dj:=fun j j' a h h'=>by
    rcases src h with ⟨c,m⟩ | ⟨c,m⟩
    ·rcases src h' with ⟨c',m'⟩ | ⟨c',m'⟩
     ·rw [c,c']
     ·exact absurd m (out c' m').1
    ·rcases src h' with ⟨c',m'⟩ | ⟨c',m'⟩
     ·exact absurd m' (out c m).1
     ·exact w1.dj j j' a m m'
   rd:=by
    rw [List.nodup_append]
    exact ⟨hLr.1,hrd.2.1,fun a ha b hb e=>hLr.2.2 a ha b (List.mem_append_right _ hb) e⟩
   rj:=fun j a m z=>by
    rcases src m with ⟨c,m⟩ | ⟨c,m⟩
    ·rcases List.mem_append.mp z with z | z
     ·exact wr.rj 0 a m (List.mem_append_left _ z)
     ·exact wr.rj 0 a m (List.mem_append_right _ (List.mem_append_right _ z))
    ·rcases List.mem_append.mp z with z | z
     ·exact (out c m).2 z
     ·exact w1.rj j a m (List.mem_append_right _ z)
   nf:=fun j a m z=>by
    rcases src m with ⟨c,m⟩ | ⟨c,m⟩
    ·exact wr.nf 0 a m z.1
    ·by_cases hj:j∈namsOf as
     ·exact z.2 j hj m
     ·exact wr.nr a (List.mem_append_right _ (List.mem_append_left _ (inR (fun q=>(List.mem_cons.mp q).elim c hj) m))) z.1
   nr:=fun a m z=>by
    rcases List.mem_append.mp m with m | m
    ·exact wr.nr a (List.mem_append_left _ m) z.1
    ·exact wr.nr a (List.mem_append_right _ (List.mem_append_right _ m)) z.1
   tr:=fun a m=>by
    rcases List.mem_append.mp m with m | m
    ·exact wr.tr a (List.mem_append_left _ m)
    ·exact wr.tr a (List.mem_append_right _ (List.mem_append_right _ m))
   ft:=fun a z=>wr.ft a z.1 }
 ·exact s1.trans ⟨fun a o e n=>keep a o e (n i),F13,fun j a m=>by
   rcases src m with ⟨c,m⟩ | ⟨c,m⟩
   ·exact (fresh0 a m).imp (fun z=>⟨i,z⟩) id
   ·exact .inl ⟨j,m⟩,fun a m=>(fresh a m).imp (fun z=>⟨i,z⟩) id⟩
theorem NK (F:FnOk X.prog X.w X.K X.mg X.base CX k f fd ps (aW X.K n false sf)) (hr:Room k X.A) (hg:Gl X x) (hm:X.mg x=some (.ref f)) (hk:PySem.W.keepIn X.K (.ref f)=true) (hb:Binds X.K fd ps []) (hx:rM CX X E) (ha:SA X (e :: es) os)
  (hdb:(x==("__debug__" : Str))=false:=by decide) (he:starEach (e :: es) X.env=(false,eval e X.env) :: starEach es X.env:=by rfl) (hpl:(backTo pos (starEach es X.env)).any (·.1)=false:=by rfl) :
  SE X (.Call (.Name x p) (e :: es) [] pos) (aM n sf os):=
 (xf F hr hg hm hk hb .nil hx ha hdb he hpl).wk fun σ H Q h=>Ed h
theorem Ju {i:Nat} (F:FnOk X.prog X.w X.K X.mg X.base CX k f fd ps (aW X.K n true sf)) (hr:Room k X.A) (hg:Gl X x) (hm:X.mg x=some (.ref f)) (hk:PySem.W.keepIn X.K (.ref f)=true) (hb:Binds X.K fd ps []) (hx:rM CX X E) (ha:SA X (e :: es) (.nam i :: os))
  (hdb:(x==("__debug__" : Str))=false:=by decide) (he:starEach (e :: es) X.env=(false,eval e X.env) :: starEach es X.env:=by rfl) (hpl:(backTo pos (starEach es X.env)).any (·.1)=false:=by rfl) :
  SE X (.Call (.Name x p) (e :: es) [] pos) (aD n sf i os):=
 (xf F hr hg hm hk hb .nil hx ha hdb he hpl).wk fun σ H Q h=>JX h
end
section
variable {K:PySem.W.Frag} {F:Addr->Prop} {H:Hp} {σ : St} {ρ : En} {Ls:Nat->List Addr} {R:List Addr}
theorem Rps.off {vs:List V} {ds:List D} {L:List Addr} {a:Addr} {xs xs':List V} (r:Rps K F H vs ds L) (ha:H a=some (.lst xs)) (hf:¬ F a) (hL:a ∉ L):Rps K F (upd H a (.lst xs')) vs ds L:=by
 refine r.mono (fun _ h=>h) (fun b o e st=>?_) (fun b o f e=>?_) fun b hb o e=>?_
 ·rw [bf (fun z=>by subst z;rw [ha] at e;cases e;exact st)];exact e
 ·rw [bf (fun z=>by subst z;exact hf f)];exact e
 ·rw [bf (fun z=>by subst z;exact hL hb)];exact e
theorem Rp.off {v:V} {d:D} {L:List Addr} {a:Addr} {xs xs':List V} (r:Rp K F H v d L) (ha:H a=some (.lst xs)) (hf:¬ F a) (hL:a ∉ L):Rp K F (upd H a (.lst xs')) v d L:=by
 refine r.mono (fun _ h=>h) (fun b o e st=>?_) (fun b o f e=>?_) fun b hb o e=>?_
 ·rw [bf (fun z=>by subst z;rw [ha] at e;cases e;exact st)];exact e
 ·rw [bf (fun z=>by subst z;exact hf f)];exact e
 ·rw [bf (fun z=>by subst z;exact hL hb)];exact e
theorem WS.mut {i:Nat} {a:Addr} {v:V} {d d':D} {L' l R':List Addr} {xs xs':List V} (w:WS K F H σ ρ Ls R) (e : ρ[i]? = some (some d)) (hv : σ[i]? = some (some v)) (ha:H a=some (.lst xs)) (haL:a∈Ls i)
  (r':Rp K F (upd H a (.lst xs')) v d' L') (hp:(L'++R'++l).Perm (Ls i++R)):WS K F (upd H a (.lst xs')) σ (ρ.set i (some d')) (jq Ls i L') R':=by
 have hi:i < ρ.length:=(List.getElem?_eq_some_iff.mp e).1
 have ndI:(Ls i++R).Nodup:=List.nodup_append.mpr ⟨w.nd i,w.rd,fun x hx y hy z=>by subst z;exact w.rj i x hx hy⟩
 have ndA:(L'++R'++l).Nodup:=hp.nodup_iff.mpr ndI
 have ndB:=(List.nodup_append.mp ndA).1
 have mem:∀ b,b∈L'++R'->b∈Ls i∨b∈R:=fun b hb=>List.mem_append.mp (hp.mem_iff.mp (List.mem_append_left _ hb))
 have naF:¬ F a:=w.nf i a haL
 have src:∀ {j:Nat} {b:Addr},b∈jq Ls i L' j->(j=i∧b∈L')∨(j≠i∧b∈Ls j):=fun {j b} m=>by
  by_cases c:j=i
  ·rw [c,aH] at m;exact .inl ⟨c,m⟩
  ·rw [aQ c] at m;exact .inr ⟨c,m⟩
 have apart:∀ {j:Nat} {b:Addr},j≠i->b∈Ls j->b ∉ L'++R':=fun {j b} c m z=>(mem b z).elim (fun q=>c (w.dj j i b m q)) fun q=>w.rj j b m q
 exact {
  len:=by rw [List.length_set];exact w.len
  sl:=fun j d2 e2=>by
   by_cases c:j=i
   ·subst c
    rw [List.getElem?_set_self hi] at e2
    cases e2
    exact ⟨v,hv,by rw [aH];exact r'⟩
   ·rw [List.getElem?_set_ne (Ne.symm c)] at e2
    obtain ⟨u,h1,h2⟩:=w.sl j d2 e2
    exact ⟨u,h1,by rw [aQ c];exact h2.off ha naF fun z=>c (w.dj j i a z haL)⟩
  em:=fun j h=>by
   by_cases c:j=i
   ·subst c;exact absurd (List.getElem?_set_self hi) (h d')
   ·rw [aQ c];exact w.em j fun d2 z=>h d2 (by rw [List.getElem?_set_ne (Ne.symm c)];exact z)
  nd:=fun j=>by
   by_cases c:j=i
   ·rw [c,aH];exact (List.nodup_append.mp ndB).1
   ·rw [aQ c];exact w.nd j
  dj:=fun j j' b h h'=>by
   rcases src h with ⟨c,m⟩ | ⟨c,m⟩
   ·rcases src h' with ⟨c',m'⟩ | ⟨c',m'⟩
    ·rw [c,c']
    ·exact absurd (List.mem_append_left _ m) (apart c' m')
   ·rcases src h' with ⟨c',m'⟩ | ⟨c',m'⟩
    ·exact absurd (List.mem_append_left _ m') (apart c m)
    ·exact w.dj j j' b m m'
  rd:=(List.nodup_append.mp ndB).2.1
  rj:=fun j b m z=>by
   rcases src m with ⟨c,m⟩ | ⟨c,m⟩
   ·exact (List.nodup_append.mp ndB).2.2 b m b z rfl
   ·exact apart c m (List.mem_append_right _ z)
  nf:=fun j b m z=>by
   rcases src m with ⟨c,m⟩ | ⟨c,m⟩
   ·exact (mem b (List.mem_append_left _ m)).elim (fun q=>w.nf i b q z) fun q=>w.nr b q z
   ·exact w.nf j b m z
  nr:=fun b m z=>(mem b (List.mem_append_right _ m)).elim (fun q=>w.nf i b q z) fun q=>w.nr b q z
  tr:=fun b m=>by
   by_cases c:b=a
   ·subst c;exact ⟨.l xs',cJ⟩
   ·rw [bf c]
    exact (mem b (List.mem_append_right _ m)).elim (fun q=>w.own q) fun q=>w.tr b q
  ft:=fun b z=>by
   by_cases c:b=a
   ·subst c;rw [cJ];simp
   ·rw [bf c];exact w.ft b z }
theorem Step.mut {F1:Addr->Prop} {H1:Hp} {Ls1:Nat->List Addr} {Ld L' Lr:List Addr} {i:Nat} {a:Addr} {xs':List V} (s:Step F H Ls F1 H1 Ls1 Ld) (haL:a∈Ls1 i) (hs:∀ b∈L'++Lr,b∈Ls1 i∨b∈Ld) :
  Step F H Ls F1 (upd H1 a (.lst xs')) (jq Ls1 i L') Lr:=by
 have back:∀ b∈L'++Lr,(∃ j,b∈Ls j)∨H b=none:=fun b m=>(hs b m).elim (s.src i b) (s.srcD b)
 refine ⟨fun b o e n=>?_,s.mono,fun j b m=>?_,fun b m=>back b (List.mem_append_right _ m)⟩
 ·rw [bf (fun z=>by
   subst z
   rcases s.src i b haL with ⟨j,q⟩ | q
   ·exact n j q
   ·rw [e] at q;cases q)]
  exact s.keep b o e n
 ·by_cases c:j=i
  ·rw [c,aH] at m;exact back b (List.mem_append_left _ m)
  ·rw [aQ c] at m;exact s.src j b m
end
noncomputable abbrev yf:=List D->List D->Option (List D×D)
noncomputable def mR (r:V->List V->Hp->VK->Prop) (g:yf):Prop:=
 ∀ (K:PySem.W.Frag) (F:Addr->Prop) (H:Hp) (a:Addr) (vs us:List V) (ds es ds':List D) (rd:D) (M La:List Addr) (Q:VK),H a=some (.lst vs)->Rps K F H vs ds M->Rps K F H us es La->g ds es=some (ds',rd) ->
  (∀ vs' M' vr Lr l,Rps K F H vs' ds' M'->Rp K F H vr rd Lr->(M'++Lr++l).Perm (M++La)->Q vr (upd H a (.lst vs')))->r (.ref a) us H Q
noncomputable def iC (g:yf) (i:Nat) (os:List Opd):aZ:=fun ρ Q=>(∃ o ds,ρ[i]? = some (some (.lst o ds)))∧dD os ρ fun as ρ'=>∃ ds es ds' rd,ρ'[i]? = some (some (.lst true ds))∧aY ρ' as=some es∧namsSh ρ' as=true∧g ds es=some (ds',rd)∧Q rd (ρ'.set i (some (.lst true ds')))
section
variable {X:Cx} {K:PySem.W.Frag} {σ : St} {H:Hp} {os:List Opd} {i:Nat} {g:yf} {r:V->List V->Hp->VK->Prop}
theorem Tn {Q:VK} (hg:mR r g) {x:V} (hx : σ[i]? = some (some x)) (h:gM K (iC g i os) σ H Q):oE K os σ H fun xs H2=>r x xs H2 Q:=by
 obtain ⟨F,ρ,Ls,R,Qd,w,⟨_,q⟩,k⟩:=h
 refine ⟨F,ρ,Ls,R,_,w,q,fun us H1 as ρ1 F1 Ls1 La r1 w1 s1 ⟨ds,es,ds',rd,e0,e1,e2,e3,q1⟩=>?_⟩
 obtain ⟨v,hv,rv⟩:=w1.sl i _ e0
 rw [hx] at hv
 cases hv
 have ra:=r1.all w1 e1 e2
 generalize hLi:Ls1 i=Li at rv
 cases rv with
 | @own a vs _ M ha rs=>
  refine hg K F1 H1 a vs us ds es ds' rd M La Q ha rs ra e3 fun vs' M' vr Lr l rs' rr hp=>?_
  have haL:a∈Ls1 i:=by rw [hLi];exact List.mem_cons_self
  have naF:¬ F1 a:=w1.nf i a haL
  have nodup:(a :: M++(La++R)).Nodup:=by rw [← hLi];exact List.nodup_append.mpr ⟨w1.nd i,w1.rd,fun x hx y hy z=>by subst z;exact w1.rj i x hx hy⟩
  have na:a ∉ M'++Lr:=fun z=>by
   have:a∈M++La:=hp.mem_iff.mp (List.mem_append_left _ z)
   have h2:=(List.nodup_cons.mp (show (a :: (M++(La++R))).Nodup from nodup)).1
   rw [← List.append_assoc] at h2
   exact h2 (List.mem_append_left _ this)
  have hp2:(a :: M'++(Lr++R)++l).Perm (Ls1 i++(La++R)):=by
   rw [hLi]
   refine List.Perm.cons a ?_
   have:(M'++(Lr++R)++l).Perm (M'++Lr++l++R):=by
    rw [List.append_assoc,List.append_assoc,List.append_assoc,List.append_assoc]
    exact (List.Perm.refl M').append ((List.Perm.refl Lr).append List.perm_append_comm)
   refine this.trans ?_
   show List.Perm _ (M++(La++R))
   rw [← List.append_assoc M La R]
   exact hp.append_right R
  refine k vr _ rd _ F1 (jq Ls1 i (a :: M')) Lr (rr.off ha naF fun z=>na (List.mem_append_right _ z)) (w1.mut e0 hx ha haL (.own cJ (rs'.off ha naF fun z=>na (List.mem_append_left _ z))) hp2) (s1.mut haL fun b hb=>?_) q1
  rw [hLi]
  rcases List.mem_append.mp hb with hb | hb
  ·rcases List.mem_cons.mp hb with rfl | hb
   ·exact .inl List.mem_cons_self
   ·exact (List.mem_append.mp (hp.mem_iff.mp (List.mem_append_left _ (List.mem_append_left _ hb)))).imp (List.mem_cons_of_mem _) id
  ·exact (List.mem_append.mp (hp.mem_iff.mp (List.mem_append_left _ (List.mem_append_right _ hb)))).imp (List.mem_cons_of_mem _) id
theorem Ri {Q:VK} (h:gM K (iC g i os) σ H Q):∃ x,σ[i]? = some (some x)∧tyV K "list" x H:=by
 obtain ⟨F,ρ,Ls,R,Qd,w,⟨⟨o,ds,e⟩,q⟩,k⟩:=h
 obtain ⟨v,hv,rv⟩:=w.sl i _ e
 obtain ⟨a,vs,M,rfl,ha,_⟩:=rv.lst_at
 exact ⟨_,hv,.inl ⟨rfl,_,.of ha⟩⟩
theorem ju {x name:Str} {id:String} {e:Expr} {es:List Expr} {p apos cpos:Pos} (slot:Slot "list" name id) (hty:typeOf (.builtin id)=pure (.type "method_descriptor")) (hm:MtM X id r) (hg:mR r g)
  (hN:X.N[i]? = some x) (hv:Vis X.env.scope x) (ha:SA X (e :: es) os) (hd:(x==("__debug__" : Str))=false:=by decide) (hcd:(x==("__classdict__" : Str))=false:=by decide)
  (hbase:attributeBase (.Name x p) name X.env (eval (.Name x p) X.env)=eval (.Name x p) X.env:=by rfl)
  (hfew:((backTo cpos (starEach (e :: es) X.env)).all (fun x=>!x.1)&&(backToKw cpos (keywordEach [] X.env)).all (fun x=>x.1.isSome)
   && decide ((e :: es).length+([]:List Keyword).length+(if ([]:List Keyword).isEmpty then 0 else 1)<30))=true:=by rfl)
  (hline:(apos.endLine==cpos.line)=true:=by rfl) (hs:starEach (e :: es) X.env=(false,eval e X.env) :: starEach es X.env:=by rfl) (hplain:(backTo cpos (starEach es X.env)).any (·.1)=false:=by rfl) :
  SE X (.Call (.Attribute (.Name x p) name apos) (e :: es) [] cpos) (iC g i os):=
 (vC PySem.F.plainAttrs_list slot hty hm (nZ hN hv hd hcd) ha hbase hfew hline hs hplain).wk fun σ H Q h=>by
  obtain ⟨v,hv,ty⟩:=Ri h
  exact ⟨v,hv,ty,Tn hg hv h⟩
end
theorem Rps.split {K:PySem.W.Frag} {F:Addr->Prop} {H:Hp}:∀ {vs:List V} {ds:List D} {L:List Addr} {k:Nat} {d:D},Rps K F H vs ds L->ds[k]? = some d -> ∃ v L1 Lk L2,L=L1++(Lk++L2)∧vs[k]? = some v∧Rp K F H v d Lk ∧
  Rps K F H (vs.eraseIdx k) (ds.eraseIdx k) (L1++L2) ∧ ∀ v' d' Lk',Rp K F H v' d' Lk'->Rps K F H (vs.set k v') (ds.set k d') (L1++(Lk'++L2))
 | _,_,_,k,d,.nil,e=>by simp at e
 | _,_,_,0,d,.cons (L:=L) (M:=M) r rs,e=>by
  simp at e
  subst e
  exact ⟨_,[],L,M,rfl,rfl,r,rs,fun v' d' Lk' r'=>by rw [List.nil_append];exact .cons r' rs⟩
 | _,_,_,k+1,d,.cons (L:=L) (M:=M) r rs,e=>by
  obtain ⟨v,L1,Lk,L2,rfl,h1,h2,h3,h4⟩:=Rps.split (k:=k) rs (by simpa using e)
  refine ⟨v,L++L1,Lk,L2,by rw [List.append_assoc],by simpa using h1,h2,?_,fun v' d' Lk' r'=>?_⟩
  ·rw [List.append_assoc];exact .cons r h3
  ·rw [List.append_assoc];exact .cons r (h4 v' d' Lk' r')
theorem Rps.cut {K:PySem.W.Frag} {F:Addr->Prop} {H:Hp}:∀ {vs:List V} {ds:List D} {L:List Addr} (k:Nat),Rps K F H vs ds L -> ∃ L1 L2,L=L1++L2∧Rps K F H (vs.take k) (ds.take k) L1∧Rps K F H (vs.drop k) (ds.drop k) L2
 | _,_,_,0,r=>⟨[],_,rfl,.nil,r⟩
 | _,_,_,k+1,.nil=>⟨[],[],rfl,.nil,.nil⟩
 | _,_,_,k+1,.cons (L:=L) r rs=>by
  obtain ⟨L1,L2,rfl,h1,h2⟩:=Rps.cut k rs
  exact ⟨L++L1,L2,by rw [List.append_assoc],.cons r h1,h2⟩
theorem Rps.one {K:PySem.W.Frag} {F:Addr->Prop} {H:Hp} {us:List V} {d:D} {L:List Addr} (r:Rps K F H us [d] L):∃ u,us=[u]∧Rp K F H u d L:=by
 cases r with
 | cons r rs=>cases rs with
  | nil=>exact ⟨_,rfl,by rw [List.append_nil];exact r⟩
theorem Rps.two {K:PySem.W.Frag} {F:Addr->Prop} {H:Hp} {us:List V} {d e:D} {L:List Addr} (r:Rps K F H us [d,e] L):∃ u v L1 L2,us=[u,v]∧L=L1++L2∧Rp K F H u d L1∧Rp K F H v e L2:=by
 cases r with
 | cons r rs=>
  obtain ⟨v,rfl,r2⟩:=rs.one
  exact ⟨_,_,_,_,rfl,rfl,r,r2⟩
noncomputable def cG:yf:=fun ds es=>match es with | [e]=>if ds.length<sizeLine then some (ds++[e],.non) else none | _=>none
theorem fZ:mR Du cG:=by
 intro K F H a vs us ds es ds' rd M La Q ha rs ra e q
 unfold cG at e
 split at e
 ·split at e
  ·rename_i hz
   cases e
   obtain ⟨u,rfl,ru⟩:=ra.one
   exact ⟨a,vs,u,rfl,rfl,ha,by rw [rs.length];exact hz,q _ _ _ [] [] (rs.append (.cons ru .nil)) .non (by simp)⟩
  ·cases e
 ·cases e
noncomputable def jc:yf:=fun ds es=>match es with
 | [.lst o xs]=>if ds.length+xs.length<=sizeLine then some (ds++xs,.non) else none
 | _=>none
theorem pY:mR Dv jc:=by
 intro K F H a vs us ds es ds' rd M La Q ha rs ra e q
 unfold jc at e
 split at e
 ·split at e
  ·rename_i hz
   cases e
   obtain ⟨u,rfl,ru⟩:=ra.one
   cases ru with
   | @frz b ws _ hb f rw'=>exact ⟨a,b,vs,ws,rfl,rfl,ha,hb,by rw [rs.length,rw'.length];exact hz,q _ _ _ [] [] (rs.append rw') .non (by simp)⟩
   | @own b ws _ L hb rw'=>
    refine ⟨a,b,vs,ws,rfl,rfl,ha,hb,by rw [rs.length,rw'.length];exact hz,q _ _ _ [] [b] (rs.append rw') .non ?_⟩
    rw [List.append_nil,List.append_assoc]
    exact (List.Perm.refl M).append List.perm_append_comm
  ·cases e
 ·cases e
noncomputable def Vg:V->List V->Hp->VK->Prop:=fun x us H Q=>∃ i v,us=[i,v]∧Jo x i v H fun H'=>Q .non H'
noncomputable def Rh:yf:=fun ds es=>match es with
 | [.int k,e]=>(ixN ds.length k).map fun j=>(ds.set j e,.non)
 | _=>none
theorem Qs:mR Vg Rh:=by
 intro K F H a vs us ds es ds' rd M La Q ha rs ra e q
 unfold Rh at e
 split at e
 ·obtain ⟨j,ej,e1⟩:=Option.map_eq_some_iff.mp e
  cases e1
  obtain ⟨u,v,L1,L2,rfl,rfl,r1,r2⟩:=ra.two
  cases r1
  obtain ⟨_,hj,_⟩:=wB ej
  obtain ⟨w,N1,Nk,N2,rfl,h1,h2,_,h4⟩:=rs.split (List.getElem?_eq_getElem hj)
  refine ⟨_,v,rfl,a,vs,_,j,rfl,rfl,ha,by rw [rs.length];exact ej,q _ _ _ [] Nk (h4 v _ L2 r2) .non ?_⟩
  rw [List.append_nil,List.nil_append,List.append_assoc,List.append_assoc,List.append_assoc]
  refine (List.Perm.refl N1).append ?_
  rw [← List.append_assoc]
  refine List.perm_append_comm.trans ?_
  rw [List.append_assoc]
  exact (List.Perm.refl Nk).append List.perm_append_comm
 ·cases e
section
variable {X:Cx} {K:PySem.W.Frag} {F F1:Addr->Prop} {H H1:Hp} {σ : St} {ρ ρ1:En} {Ls Ls1:Nat->List Addr} {R La:List Addr} {i:Nat} {g:yf} {r:V->List V->Hp->VK->Prop}
theorem Ik {Q:VK} {x:V} {us:List V} {ds es ds':List D} {rd:D} (hg:mR r g) (hx : σ[i]? = some (some x)) (e0 : ρ1[i]? = some (some (.lst true ds))) (ra:Rps K F1 H1 us es La) (e3:g ds es=some (ds',rd))
  (w1:WS K F1 H1 σ ρ1 Ls1 (La++R)) (s1:Step F H Ls F1 H1 Ls1 La)
  (k:∀ vr H' Ls' Lr,Rp K F1 H' vr rd Lr->WS K F1 H' σ (ρ1.set i (some (.lst true ds'))) Ls' (Lr++R)->Step F H Ls F1 H' Ls' Lr->Q vr H'):r x us H1 Q:=by
 obtain ⟨v,hv,rv⟩:=w1.sl i _ e0
 rw [hx] at hv
 cases hv
 generalize hLi:Ls1 i=Li at rv
 cases rv with
 | @own a vs _ M ha rs=>
  refine hg K F1 H1 a vs us ds es ds' rd M La Q ha rs ra e3 fun vs' M' vr Lr l rs' rr hp=>?_
  have haL:a∈Ls1 i:=by rw [hLi];exact List.mem_cons_self
  have naF:¬ F1 a:=w1.nf i a haL
  have nodup:(a :: M++(La++R)).Nodup:=by rw [← hLi];exact List.nodup_append.mpr ⟨w1.nd i,w1.rd,fun x hx y hy z=>by subst z;exact w1.rj i x hx hy⟩
  have na:a ∉ M'++Lr:=fun z=>by
   have:a∈M++La:=hp.mem_iff.mp (List.mem_append_left _ z)
   have h2:=(List.nodup_cons.mp (show (a :: (M++(La++R))).Nodup from nodup)).1
   rw [← List.append_assoc] at h2
   exact h2 (List.mem_append_left _ this)
  have hp2:(a :: M'++(Lr++R)++l).Perm (Ls1 i++(La++R)):=by
   rw [hLi]
   refine List.Perm.cons a ?_
   have:(M'++(Lr++R)++l).Perm (M'++Lr++l++R):=by
    rw [List.append_assoc,List.append_assoc,List.append_assoc,List.append_assoc]
    exact (List.Perm.refl M').append ((List.Perm.refl Lr).append List.perm_append_comm)
   refine this.trans ?_
   show List.Perm _ (M++(La++R))
   rw [← List.append_assoc M La R]
   exact hp.append_right R
  refine k vr _ (jq Ls1 i (a :: M')) Lr (rr.off ha naF fun z=>na (List.mem_append_right _ z)) (w1.mut e0 hx ha haL (.own cJ (rs'.off ha naF fun z=>na (List.mem_append_left _ z))) hp2) (s1.mut haL fun b hb=>?_)
  rw [hLi]
  rcases List.mem_append.mp hb with hb | hb
  ·rcases List.mem_cons.mp hb with rfl | hb
   ·exact .inl List.mem_cons_self
   ·exact (List.mem_append.mp (hp.mem_iff.mp (List.mem_append_left _ (List.mem_append_left _ hb)))).imp (List.mem_cons_of_mem _) id
  ·exact (List.mem_append.mp (hp.mem_iff.mp (List.mem_append_left _ (List.mem_append_right _ hb)))).imp (List.mem_cons_of_mem _) id
end
noncomputable def tQ (i:Nat) (se:aZ) (oi:Opd):bW:=fun ρ E=>(∃ d,ρ[i]? = some (some d))∧dD [.val se,oi] ρ fun as ρ'=>∃ d a ds k j,as=[.val d,a]∧a.get ρ'=some (.int k) ∧ ρ'[i]? = some (some (.lst true ds))∧ixN ds.length k=some j ∧
 E.nx (ρ'.set i (some (.lst true (ds.set j d))))
section
variable {X:Cx} {kp:Nat->Bool} {pos:Pos}
theorem Cz {K:PySem.W.Frag} {F:Addr->Prop} {H:Hp} {σ : St} {ρ : En} {Ls:Nat->List Addr} {R La:List Addr} (w:WS K F H σ ρ Ls R) {v:V} {a:AD} {k:Int} (r:RpA K F H σ [v] [a] La) (e:a.get ρ = some (.int k)):v = .int k:=by
 obtain ⟨x,L,e1,r1⟩:=(r.at w (ds:=[.int k]) (by rw [aY,e];rfl)).one
 cases e1
 exact r1.isInt
theorem zZ {i:Nat} {x:Str} {idx e:Expr} {se:aZ} {oi:Opd} {p pos':Pos} (hN:X.N[i]? = some x) (hv:Vis X.env.scope x) (he:SE X e se) (hi:SO X idx oi) (hd:(x==("__debug__" : Str))=false:=by decide) (hcd:(x==("__classdict__" : Str))=false:=by decide)
  (ha:∀ v,assign (.Subscript (.Name x p) idx pos') X.env v=(do
   let ov ← holding [v] (eval (.Name x p) X.env)
   let iv ← holding [v,ov] (eval idx X.env)
   standAt pos'
   holding [v,ov,iv] (setItem ov iv v)
   release [v,ov,iv] []):=by intro _;rfl)
  (hs:swapsWithSole [.Subscript (.Name x p) idx pos'] e pos.line X.env=pure false:=by rfl) (hw:swappedStores [.Subscript (.Name x p) idx pos'] e X.env=pure none:=by rfl)
  (h1:(assignEach [.Subscript (.Name x p) idx pos'] X.env).map (·.2)=[assign (.Subscript (.Name x p) idx pos') X.env]:=by rfl):SS X kp (.Assign [.Subscript (.Name x p) idx pos'] e pos) (tQ i se oi):=
 (Jf he (RW (nZ hN hv hd hcd) hi set_list ha) hs hw h1).wk fun D σ H hh25=>by
  obtain ⟨F,ρ,Ls,R,E,w,⟨⟨d0,e0⟩,q⟩,pe⟩:=hh25
  obtain ⟨v0,hv0,_⟩:=w.sl i d0 e0
  have t:oE X.K [.val se,oi] σ H fun vs H2=>∃ v k,vs=[v,k]∧Jo v0 k v H2 fun H3=>D.nx σ H3:=by
   refine ⟨F,ρ,Ls,R,_,w,q,fun vs H1 as ρ1 F1 Ls1 La r1 w1 s1 ⟨d,a,ds,k,j,ea,ek,ed,ej,q1⟩=>?_⟩
   subst ea
   cases r1 with
   | @val v vs _ _ L M rd rk=>
    obtain ⟨kv,rfl⟩:∃ kv,vs=[kv]:=by
     cases rk with
     | val _ z=>cases z;exact ⟨_,rfl⟩
     | nam _ z=>cases z;exact ⟨_,rfl⟩
    have hk:=Cz w1 rk ek
    subst hk
    have hM:M=[]∨True:=.inr trivial
    refine ⟨v,.int k,rfl,?_⟩
    have w2:WS X.K F1 H1 σ ρ1 Ls1 (L++R):=w1.less ((List.sublist_append_left L M).append (List.Sublist.refl R))
    have s2:Step F H Ls F1 H1 Ls1 L:=s1.more fun a ha=>s1.srcD a (List.mem_append_left _ ha)
    obtain ⟨i',v',eu,rr⟩:=Ik (Q:=fun _ H'=>D.nx σ H') (us:=[.int k,v]) (es:=[.int k,d]) (ds':=ds.set j d) (rd:=.non) Qs hv0 ed (.cons (L:=[]) (.int k) (by have z:=Rps.cons rd (.nil (K:=X.K) (F:=F1) (H:=H1));rw [List.append_nil] at z;exact z)) (by simp [Rh,ej]) w2 s2 fun vr H' Ls' Lr rr w' s'=>by
     exact pe.nx σ H' _ F1 Ls' (w'.less (List.sublist_append_right _ _)) (s'.more fun a h=>absurd h (by simp)) (fun _ _=>rfl) q1
    cases eu
    exact rr
  have t1:=eH t
  refine rJ t1 fun v H1 t2=>⟨v0,hv0,?_⟩
  refine jB (fun k H2 t3=>?_) (eH t2)
  obtain ⟨F,ρ,Ls,R,Qd,w,q,kk⟩:=t3
  obtain ⟨v',k',e',q'⟩:=kk [] H2 [] ρ F Ls [] .nil w Step.refl q
  cases e'
  exact q'
end
noncomputable def tO (i:Nat):bW:=fun ρ E=>∃ d,ρ[i]? = some (some d)∧E.rt d (ρ.set i none)
section
variable {X:Cx} {kp:Nat->Bool} {pos:Pos} {K:PySem.W.Frag} {F:Addr->Prop} {H:Hp} {σ : St} {ρ : En} {Ls:Nat->List Addr} {R:List Addr}
theorem WS.take {i:Nat} {d:D} (w:WS K F H σ ρ Ls R) (e : ρ[i]? = some (some d)):WS K F H σ (ρ.set i none) (jq Ls i []) (Ls i++R):=by
 have hi:i < ρ.length:=(List.getElem?_eq_some_iff.mp e).1
 have src:∀ {j:Nat} {b:Addr},b∈jq Ls i [] j->j≠i∧b∈Ls j:=fun {j b} m=>by
  by_cases c:j=i
  ·rw [c,aH] at m;simp at m
  ·rw [aQ c] at m;exact ⟨c,m⟩
 exact {
  len:=by rw [List.length_set];exact w.len
  sl:=fun j d' e'=>by
   by_cases c:j=i
   ·subst c;rw [List.getElem?_set_self hi] at e';cases e'
   ·rw [List.getElem?_set_ne (Ne.symm c)] at e'
    obtain ⟨u,h1,h2⟩:=w.sl j d' e'
    exact ⟨u,h1,by rw [aQ c];exact h2⟩
  em:=fun j h=>by
   by_cases c:j=i
   ·rw [c,aH]
   ·rw [aQ c];exact w.em j fun d' z=>h d' (by rw [List.getElem?_set_ne (Ne.symm c)];exact z)
  nd:=fun j=>by
   by_cases c:j=i
   ·rw [c,aH];exact List.nodup_nil
   ·rw [aQ c];exact w.nd j
  dj:=fun j j' a h h'=>w.dj j j' a (src h).2 (src h').2
  rd:=List.nodup_append.mpr ⟨w.nd i,w.rd,fun x hx y hy z=>by subst z;exact w.rj i x hx hy⟩
  rj:=fun j a h z=>by
   obtain ⟨c,m⟩:=src h
   rcases List.mem_append.mp z with z | z
   ·exact c (w.dj j i a m z)
   ·exact w.rj j a m z
  nf:=fun j a h=>w.nf j a (src h).2
  nr:=fun a z=>by
   rcases List.mem_append.mp z with z | z
   ·exact w.nf i a z
   ·exact w.nr a z
  tr:=fun a z=>by
   rcases List.mem_append.mp z with z | z
   ·exact w.own z
   ·exact w.tr a z
  ft:=w.ft }
theorem xX {i:Nat} {x:Str} {p:Pos} (hf0:Gx kp i) (hN:X.N[i]? = some x) (hv:Vis X.env.scope x) (hd:(x==("__debug__" : Str))=false:=by decide) (hcd:(x==("__classdict__" : Str))=false:=by decide):SS X kp (.Return (some (.Name x p)) pos) (tO i):=
 (Ji (nZ hN hv hd hcd)).wk fun D σ H hh26=>by
  obtain ⟨F,ρ,Ls,R,E,w,⟨d,e,q⟩,pe⟩:=hh26
  obtain ⟨v,hv,r⟩:=w.sl i d e
  refine ⟨v,hv,pe.rt v σ H d _ F _ (Ls i) r (w.take e) ⟨fun _ _ e _=>e,fun _ h=>h,fun j a m=>?_,fun a m=>.inl ⟨i,m⟩⟩ (fun _ _=>rfl) q⟩
  by_cases c:j=i
  ·rw [c,aH] at m;simp at m
  ·rw [aQ c] at m;exact .inl ⟨j,m⟩
end
noncomputable def Vp (i j:Nat) (os:List Opd):bW:=fun ρ E=>dD os ρ fun as ρ'=>∃ d e,aY ρ' as=some [d,e]∧namsSh ρ' as=true∧E.nx ((ρ'.set i (some d)).set j (some e))
noncomputable def Vn (f:Int->Int->Int) (i:Nat) (se:aZ):bW:=fun ρ E=>∃ n,ρ[i]? = some (some (.int n))∧se ρ fun d ρ'=>∃ m,d = .int m∧E.nx (ρ'.set i (some (.int (f n m))))
noncomputable def ixF (c:D) (k:Int):Option (D×Option D):=match dIx [c,.int k] with
 | some f=>some (f,none)
 | none=>match c with
  | .lst o ds=>(ixN ds.length k).bind fun j=>(ds[j]?).map fun d=>(d.fz,some (.lst o (ds.set j d.fz)))
  | .tup ds=>(ixN ds.length k).bind fun j=>(ds[j]?).map fun d=>(d.fz,some (.tup (ds.set j d.fz)))
  | _=>none
noncomputable def putO (ρ : En) (i:Nat):Option D->En
 | none=>ρ
 | some c=>ρ.set i (some c)
noncomputable def cY (i:Nat) (oi:Opd):aZ:=fun ρ Q=>dD [.nam i,oi] ρ fun as ρ'=>∃ a c k f t,as=[.nam i,a] ∧ ρ'[i]? = some (some c)∧a.get ρ'=some (.int k)∧ixF c k=some (f,t)∧Q f (putO ρ' i t)
section
variable {K:PySem.W.Frag} {F:Addr->Prop} {H:Hp} {σ : St} {ρ : En} {Ls:Nat->List Addr} {R:List Addr}
theorem Rps.splitF:∀ {vs:List V} {ds:List D} {L:List Addr} {k:Nat} {d:D},Rps K F H vs ds L->ds[k]? = some d -> ∃ v L1 Lk L2,L=L1++(Lk++L2)∧vs[k]? = some v∧Rp K F H v d Lk ∧
  ∀ F':Addr->Prop,(∀ a,F a->F' a)->(∀ a∈Lk,F' a)->Rps K F' H vs (ds.set k d.fz) (L1++L2)
 | _,_,_,k,d,.nil,e=>by simp at e
 | _,_,_,0,d,.cons (L:=L) (M:=M) r rs,e=>by
  simp at e
  subst e
  exact ⟨_,[],L,M,rfl,rfl,r,fun F' h1 h2=>.cons (L:=[]) (r.freeze h1 h2) (rs.mono h1 (fun _ _ e _=>e) (fun _ _ _ e=>e) fun _ _ _ e=>e)⟩
 | _,_,_,k+1,d,.cons (L:=L) (M:=M) r rs,e=>by
  obtain ⟨v,L1,Lk,L2,rfl,h1,h2,h3⟩:=Rps.splitF (k:=k) rs (by simpa using e)
  refine ⟨v,L++L1,Lk,L2,by rw [List.append_assoc],by simpa using h1,h2,fun F' g1 g2=>?_⟩
  rw [List.append_assoc]
  exact .cons (r.mono g1 (fun _ _ e _=>e) (fun _ _ _ e=>e) fun _ _ _ e=>e) (h3 F' g1 g2)
theorem WS.part {i:Nat} {c c':D} {v:V} {L' M:List Addr} (w:WS K F H σ ρ Ls R) (e : ρ[i]? = some (some c)) (hv : σ[i]? = some (some v)) (hp:(L'++M).Perm (Ls i)) (r':Rp K (fun a=>F a∨a∈M) H v c' L') :
  WS K (fun a=>F a∨a∈M) H σ (ρ.set i (some c')) (jq Ls i L') R:=by
 have hi:i < ρ.length:=(List.getElem?_eq_some_iff.mp e).1
 have ndI:(L'++M).Nodup:=hp.nodup_iff.mpr (w.nd i)
 have nd:=List.nodup_append.mp ndI
 have src:∀ {j:Nat} {b:Addr},b∈jq Ls i L' j->b∈Ls j∧(j=i->b∈L'):=fun {j b} m=>by
  by_cases q:j=i
  ·subst q;rw [aH] at m;exact ⟨hp.mem_iff.mp (List.mem_append_left _ m),fun _=>m⟩
  ·rw [aQ q] at m;exact ⟨m,fun z=>absurd z q⟩
 have mM:∀ b∈M,b∈Ls i:=fun b m=>hp.mem_iff.mp (List.mem_append_right _ m)
 exact {
  len:=by rw [List.length_set];exact w.len
  sl:=fun j d2 e2=>by
   by_cases q:j=i
   ·subst q
    rw [List.getElem?_set_self hi] at e2
    cases e2
    exact ⟨v,hv,by rw [aH];exact r'⟩
   ·rw [List.getElem?_set_ne (Ne.symm q)] at e2
    obtain ⟨u,h1,h2⟩:=w.sl j d2 e2
    exact ⟨u,h1,by rw [aQ q];exact h2.mono (fun _ h=>.inl h) (fun _ _ e _=>e) (fun _ _ _ e=>e) fun _ _ _ e=>e⟩
  em:=fun j h=>by
   by_cases q:j=i
   ·subst q;exact absurd (List.getElem?_set_self hi) (h c')
   ·rw [aQ q];exact w.em j fun d2 z=>h d2 (by rw [List.getElem?_set_ne (Ne.symm q)];exact z)
  nd:=fun j=>by
   by_cases q:j=i
   ·rw [q,aH];exact nd.1
   ·rw [aQ q];exact w.nd j
  dj:=fun j j' b h h'=>w.dj j j' b (src h).1 (src h').1
  rd:=w.rd
  rj:=fun j b m=>w.rj j b (src m).1
  nf:=fun j b m z=>by
   rcases z with z | z
   ·exact w.nf j b (src m).1 z
   ·have e1:=w.dj j i b (src m).1 (mM b z)
    exact nd.2.2 b ((src m).2 e1) b z rfl
  nr:=fun b m z=>by
   rcases z with z | z
   ·exact w.nr b m z
   ·exact w.rj i b (mM b z) m
  tr:=w.tr
  ft:=fun b z=>by
   rcases z with z | z
   ·exact w.ft b z
   ·obtain ⟨xs,q⟩:=w.own (mM b z);rw [q];simp }
theorem Step.part {i:Nat} {L' M:List Addr} (hp:(L'++M).Perm (Ls i)):Step F H Ls (fun a=>F a∨a∈M) H (jq Ls i L') []:=
 ⟨fun _ _ e _=>e,fun _ h=>.inl h,fun j a m=>by
  by_cases q:j=i
  ·subst q;rw [aH] at m;exact .inl ⟨j,hp.mem_iff.mp (List.mem_append_left _ m)⟩
  ·rw [aQ q] at m;exact .inl ⟨j,m⟩,fun a h=>absurd h (by simp)⟩
end
section
variable {X:Cx} {K:PySem.W.Frag} {σ : St} {H:Hp} {oi:Opd} {i:Nat}
theorem Tj {Q:VK} (h:gM K (cY i oi) σ H Q):oE K [.nam i,oi] σ H fun vs H1=>∃ x y,vs=[x,y]∧rIx K x y H1 Q:=by
 obtain ⟨F,ρ,Ls,R,Qd,w,q,kk⟩:=h
 refine ⟨F,ρ,Ls,R,_,w,q,fun vs H1 as ρ1 F1 Ls1 La r1 w1 s1 ⟨a,c,k,f,t,ea,ec,ek,e,q1⟩=>?_⟩
 subst ea
 cases r1 with
 | @nam v vs _ _ _ hv rk=>
  obtain ⟨kv,rfl⟩:∃ kv,vs=[kv]:=by
   cases rk with
   | val _ z=>cases z;exact ⟨_,rfl⟩
   | nam _ z=>cases z;exact ⟨_,rfl⟩
  have hk:=Cz w1 rk ek
  subst hk
  obtain ⟨v',hv',rc⟩:=w1.sl i c ec
  rw [hv] at hv'
  cases hv'
  have w2:=w1.less (List.sublist_append_right La R)
  have s2:=s1.more (Ld2:=[]) fun a h=>absurd h (by simp)
  refine ⟨v,.int k,rfl,?_⟩
  unfold ixF at e
  split at e
  ·rename_i f' ef
   cases e
   obtain ⟨x',y',e',rr⟩:=iu F1 H1 [v,.int k] [c,.int k] f Q (.cons rc (.cons (.int k) .nil)) ef fun u H' Lf o=>by
    obtain ⟨rf,o⟩:=o
    rcases o with ⟨rfl,rfl⟩ | ⟨p,hn,⟨xs,rfl,rfl⟩ | ⟨xs,rfl,rfl⟩⟩
    ·exact kk u _ f ρ1 F1 Ls1 [] rf w2 s2 q1
    ·exact kk u _ f ρ1 F1 Ls1 [p] rf (w2.put hn) ((s2.trans (Step.laid hn)).more fun a ha=>by
      cases List.mem_singleton.mp ha
      by_cases z:∃ j,p∈Ls j
      ·exact .inl z
      ·cases q:H p with
       | none=>exact .inr rfl
       | some o=>rw [s1.keep p o q fun i z'=>z ⟨i,z'⟩] at hn;cases hn) q1
    ·exact kk u _ f ρ1 F1 Ls1 [] rf (w2.laid hn) (s2.trans (Step.laid hn)) q1
   cases e'
   exact rr
  ·split at e
   ·rename_i o ds _
    obtain ⟨j,ej,e1⟩:=Option.bind_eq_some_iff.mp e
    obtain ⟨d,e2,e3⟩:=Option.map_eq_some_iff.mp e1
    cases e3
    generalize hLi:Ls1 i=Li at rc
    cases rc with
    | @frz a vs _ ha fa rs=>
     obtain ⟨u,L1,Lk,L2,eL,h1,h2,h3⟩:=rs.splitF e2
     have eL1:=List.append_eq_nil_iff.mp eL.symm
     have eL2:=List.append_eq_nil_iff.mp eL1.2
     cases eL1.1;cases eL2.1;cases eL2.2
     refine .inl ⟨a,vs,k,u,rfl,rfl,.of ha,(by unfold atI;rw [rs.length,ej];exact h1),?_⟩
     refine kk u H1 d.fz _ (fun z=>F1 z∨z∈([]:List Addr)) (jq Ls1 i []) [] (h2.freeze (fun _ h=>.inl h) fun _ h=>absurd h (by simp)) (w2.part ec hv (L':=[]) (M:=[]) (by rw [hLi];exact .refl _) (.frz ha (.inl fa) (h3 _ (fun _ h=>.inl h) fun _ h=>absurd h (by simp)))) (s2.trans (Step.part (by rw [hLi];exact .refl _))) q1
    | @own a vs _ M ha rs=>
     obtain ⟨u,L1,Lk,L2,rfl,h1,h2,h3⟩:=rs.splitF e2
     refine .inl ⟨a,vs,k,u,rfl,rfl,.of ha,(by unfold atI;rw [rs.length,ej];exact h1),?_⟩
     have hp:(a :: (L1++L2)++Lk).Perm (Ls1 i):=by
      rw [hLi]
      refine List.Perm.cons a ?_
      show List.Perm (L1++L2++Lk) _
      rw [List.append_assoc]
      exact (List.Perm.refl L1).append List.perm_append_comm
     exact kk u H1 d.fz _ (fun z=>F1 z∨z∈Lk) (jq Ls1 i (a :: (L1++L2))) [] (h2.freeze (fun _ h=>.inl h) fun _ h=>.inr h) (w2.part ec hv hp (.own ha (h3 _ (fun _ h=>.inl h) fun _ h=>.inr h))) (s2.trans (Step.part hp)) q1
   ·rename_i ds _
    obtain ⟨j,ej,e1⟩:=Option.bind_eq_some_iff.mp e
    obtain ⟨d,e2,e3⟩:=Option.map_eq_some_iff.mp e1
    cases e3
    generalize hLi:Ls1 i=Li at rc
    cases rc with
    | @tup a vs _ _ ha rs=>
     obtain ⟨u,L1,Lk,L2,rfl,h1,h2,h3⟩:=rs.splitF e2
     refine .inr (.inl ⟨a,vs,k,u,rfl,rfl,.of ha,(by unfold atI;rw [rs.length,ej];exact h1),?_⟩)
     have hp:(L1++L2++Lk).Perm (Ls1 i):=by
      rw [hLi,List.append_assoc]
      exact (List.Perm.refl L1).append List.perm_append_comm
     exact kk u H1 d.fz _ (fun z=>F1 z∨z∈Lk) (jq Ls1 i (L1++L2)) [] (h2.freeze (fun _ h=>.inl h) fun _ h=>.inr h) (w2.part ec hv hp (.tup ha (h3 _ (fun _ h=>.inl h) fun _ h=>.inr h))) (s2.trans (Step.part hp)) q1
   ·cases e
theorem cH {x:Str} {b:Expr} {p pos:Pos} (ha:SO X (.Name x p) (.nam i)) (hb:SO X b oi) (hs:oH b):SE X (.Subscript (.Name x p) b pos) (cY i oi):=
 (IW jM ha hb hs).wk fun σ H Q h=>tZ (Tj h)
end
noncomputable def GP:List D->Option D
 | [.int i]=>some (.int (if i<0 then -i else i))
 | _=>none
theorem GR {K:PySem.W.Frag}:bM K (fun xs H Q=>∃ i,xs=[.int i]∧Q (.int (if i<0 then -i else i)) H) GP:=by
 intro F H vs ds f Q r e q
 unfold GP at e
 split at e
 ·cases e
  obtain ⟨x,L,rfl,r1⟩:=r.one
  cases r1.isInt
  exact ⟨_,rfl,q _ _ _ (.ofFlat rfl)⟩
 ·cases e
noncomputable def Ep:List D->Option D
 | [.int i,.int j]=>some (.int (if j>i then j else i))
 | _=>none
noncomputable def yC:List D->Option D
 | [.int i,.int j]=>some (.int (if j<i then j else i))
 | _=>none
theorem GZ {K:PySem.W.Frag}:bM K (fun xs H Q=>∃ i j,xs=[.int i,.int j]∧Q (.int (if j>i then j else i)) H) Ep:=by
 intro F H vs ds f Q r e q
 unfold Ep at e
 split at e
 ·cases e
  obtain ⟨x,y,L,M,rfl,r1,r2⟩:=r.two
  cases r1.isInt;cases r2.isInt
  exact ⟨_,_,rfl,q _ _ _ (.ofFlat rfl)⟩
 ·cases e
theorem yG {K:PySem.W.Frag}:bM K (fun xs H Q=>∃ i j,xs=[.int i,.int j]∧Q (.int (if j<i then j else i)) H) yC:=by
 intro F H vs ds f Q r e q
 unfold yC at e
 split at e
 ·cases e
  obtain ⟨x,y,L,M,rfl,r1,r2⟩:=r.two
  cases r1.isInt;cases r2.isInt
  exact ⟨_,_,rfl,q _ _ _ (.ofFlat rfl)⟩
 ·cases e
noncomputable def uo:List D->Option D
 | [.int i]=>some (.int i)
 | [.bl k]=>some (.int (if k then 1 else 0))
 | _=>none
theorem rZ {K:PySem.W.Frag}:bM K (fun xs H Q=>(∃ i,xs=[.int i]∧Q (.int i) H) ∨ ∃ k,xs=[.bl k]∧Q (.int (if k then 1 else 0)) H) uo:=by
 intro F H vs ds f Q r e q
 unfold uo at e
 split at e
 ·cases e
  obtain ⟨x,L,rfl,r1⟩:=r.one
  cases r1.isInt
  exact .inl ⟨_,rfl,q _ _ _ (.ofFlat rfl)⟩
 ·cases e
  obtain ⟨x,L,rfl,r1⟩:=r.one
  cases r1.isBl
  exact .inr ⟨_,rfl,q _ _ _ (.ofFlat rfl)⟩
 ·cases e
noncomputable def D.tyName:D->Option String
 | .non=>some "NoneType"
 | .bl _=>some "bool"
 | .int _=>some "int"
 | .str _=>some "str"
 | .tup _=>some "tuple"
 | .lst _ _=>some "list"
 | _=>none
noncomputable def Tu (t T:String):Option Bool:=
 if T = "int" then (if t = "int" then some true else if t = "bool" then some true else if t = "NoneType" ∨ t = "str" ∨ t = "tuple" ∨ t = "list" then some false else none)
 else if T = "bool" then (if t = "bool" then some true else if t = "int" ∨ t = "NoneType" ∨ t = "str" ∨ t = "tuple" ∨ t = "list" then some false else none)
 else if T = "tuple" then (if t = "tuple" then some true else if t = "int" ∨ t = "bool" ∨ t = "NoneType" ∨ t = "str" ∨ t = "list" then some false else none)
 else if T = "list" then (if t = "list" then some true else if t = "int" ∨ t = "bool" ∨ t = "NoneType" ∨ t = "str" ∨ t = "tuple" then some false else none)
 else if T = "str" then (if t = "str" then some true else if t = "int" ∨ t = "bool" ∨ t = "NoneType" ∨ t = "tuple" ∨ t = "list" then some false else none)
 else none
theorem QV {K:PySem.W.Frag} {t T:String} {b:Bool} (h:Tu t T=some b):PySem.W.kitOne K (.type t) (.type T)=some b:=by
 unfold Tu at h
 repeat' split at h
 all_goals (first | (cases h;done) | (cases h;subst_vars;rfl) | (cases h;rename_i z;rcases z with z | z | z | z | z <;> subst z <;> subst_vars <;> kernel_rfl) | (cases h;rename_i z;rcases z with z | z | z | z <;> subst z <;> subst_vars <;> kernel_rfl) | (cases h;subst_vars;kernel_rfl))
noncomputable def eX:List D->Option D
 | [d,.ty T]=>(d.tyName.bind fun t=>Tu t T).map D.bl
 | _=>none
theorem Rp.tyOf {K:PySem.W.Frag} {F:Addr->Prop} {H:Hp} {v:V} {d:D} {L:List Addr} {t:String} (r:Rp K F H v d L) (e:d.tyName=some t):TyOf K H v (.type t):=by
 cases r with
 | non=>cases e;exact .non
 | bl b=>cases e;exact .bl b
 | int i=>cases e;exact .int i
 | str x=>cases e;exact .str x
 | ty n=>cases e
 | xc _ _ _=>cases e
 | fn _=>cases e
 | dfz _ _ _=>cases e
 | down _ _=>cases e
 | scr h=>cases e
 | tup h r=>cases e;exact .tup h
 | frz h f r=>cases e;exact .lst h
 | own h r=>cases e;exact .lst h
theorem ir {K:PySem.W.Frag}:bM K (fun xs H Q=>∃ (x:V) (T:String) (t:Value) (b:Bool),xs=[x,.ty T]∧TyOf K H x t∧PySem.W.kitOne K t (.type T)=some b∧Q (.bl b) H) eX:=by
 intro F H vs ds f Q r e q
 unfold eX at e
 split at e
 ·obtain ⟨b,e1,rfl⟩:=Option.map_eq_some_iff.mp e
  obtain ⟨t,e2,e3⟩:=Option.bind_eq_some_iff.mp e1
  obtain ⟨x,y,L,M,rfl,r1,r2⟩:=r.two
  cases r2
  exact ⟨_,_,_,b,rfl,r1.tyOf e2,QV e3,q _ _ _ (.ofFlat rfl)⟩
 ·cases e
theorem pI {X:Cx} {x:Str} {n:String} {pos:Pos} (hg:Gl X x) (hm:X.mg x=none) (hv:bootBuiltins x=some (.type n)) (hn:x ≠ "__name__":=by decide) (hd:(x==("__debug__" : Str))=false:=by decide):SE X (.Name x pos) (sC (.ty n)):=
 (Nb (v:=.ty n) hg hm hv rfl hn hd).wk fun _ _ _ h=>gA rfl h
noncomputable def D.bools:List D->Option (List Bool)
 | []=>some []
 | .bl b :: ds=>(D.bools ds).map (b :: ·)
 | _=>none
theorem Rps.bools {K:PySem.W.Frag} {F:Addr->Prop} {H:Hp}:∀ {vs:List V} {ds:List D} {L:List Addr} {bs:List Bool},Rps K F H vs ds L->D.bools ds=some bs->vs=bs.map V.bl
 | _,_,_,_,.nil,e=>by cases e;rfl
 | _,_,_,_,.cons (d:=d) (ds:=ds) r rs,e=>by
  cases d with
  | bl b=>
   rw [D.bools] at e
   obtain ⟨cs,e1,rfl⟩:=Option.map_eq_some_iff.mp e
   rw [r.isBl,Rps.bools rs e1];rfl
  | _=>simp [D.bools] at e
noncomputable def oK:List D->Option D
 | [.lst _ ds]=>(D.bools ds).map fun bs=>.bl (bs.all id)
 | _=>none
theorem ji {K:PySem.W.Frag}:bM K (fun xs H Q=>∃ (p:Addr) (bs:List Bool),xs=[.ref p]∧SqL K H p (bs.map V.bl)∧Q (.bl (bs.all id)) H) oK:=by
 intro F H vs ds f Q r e q
 unfold oK at e
 split at e
 ·obtain ⟨bs,e1,rfl⟩:=Option.map_eq_some_iff.mp e
  obtain ⟨x,L,rfl,r1⟩:=r.one
  obtain ⟨a,vs,L1,rfl,ha,ra,_⟩:=r1.lst_at
  rw [ra.bools e1] at ha
  exact ⟨_,_,rfl,.of ha,q _ _ _ (.ofFlat rfl)⟩
 ·cases e
noncomputable def Cj:List D->Option D
 | [.lst _ ds]=>if D.shs ds=true then some (.lst true ds) else none
 | [.tup ds]=>if D.shs ds=true then some (.lst true ds) else none
 | _=>none
noncomputable def fK:List D->Option D
 | [.lst _ ds]=>if D.shs ds=true then some (.tup ds) else none
 | [.tup ds]=>if D.shs ds=true then some (.tup ds) else none
 | _=>none
theorem du {K:PySem.W.Frag}:bM K (fun xs H Q=>∃ p ys,xs=[.ref p]∧((SqL K H p ys ∧ ∀ l,H l=none->Q (.ref l) (upd H l (.tup ys)))∨(SqT K H p ys∧Q (.ref p) H))) fK:=by
 intro F H vs ds f Q r e q
 unfold fK at e
 split at e
 ·split at e
  ·rename_i hs
   cases e
   obtain ⟨x,L,rfl,r1⟩:=r.one
   obtain ⟨a,vs,L1,rfl,ha,ra,_⟩:=r1.lst_at
   cases ra.sh_nil hs
   exact ⟨_,_,rfl,.inl ⟨.of ha,fun l hl=>q _ _ _ (.tuple hl ra)⟩⟩
  ·cases e
 ·split at e
  ·rename_i hs
   cases e
   obtain ⟨x,L,rfl,r1⟩:=r.one
   obtain ⟨a,vs,rfl,ha,ra⟩:=r1.tup_in
   cases ra.sh_nil hs
   exact ⟨_,_,rfl,.inr ⟨.of ha,q _ _ _ (.same (.tup ha ra))⟩⟩
  ·cases e
 ·cases e
noncomputable def cutD (xs:List D) (lo hi:Option Int):List D:=(xs.drop (HT.sIx xs.length 0 lo)).take (HT.sIx xs.length xs.length hi - HT.sIx xs.length 0 lo)
noncomputable def dSl:D->Option Int->Option Int->Option D
 | .lst _ ds,lo,hi=>if D.shs ds=true then some (.lst true (cutD ds lo hi)) else none
 | .tup ds,lo,hi=>if (D.shs ds && !decide (HT.sIx ds.length 0 lo=0∧HT.sIx ds.length ds.length hi=ds.length))=true then some (.tup (cutD ds lo hi)) else none
 | _,_,_=>none
noncomputable def sSlFrom (o lo:Opd):aZ:=sDo (fun ds=>match ds with | [d,.int l]=>dSl d (some l) none | _=>none) [o,lo]
noncomputable def sSlTo (o hi:Opd):aZ:=sDo (fun ds=>match ds with | [d,.int h]=>dSl d none (some h) | _=>none) [o,hi]
noncomputable def xm (K:PySem.W.Frag):V->Option Int->Option Int->Hp->VK->Prop:=fun x lo hi H Q=>Vh K x lo hi H Q∨Vi K x lo hi H Q
theorem Rps.cutR {K:PySem.W.Frag} {F:Addr->Prop} {H:Hp} {vs:List V} {ds:List D} (r:Rps K F H vs ds []) (lo hi:Option Int):Rps K F H (yu vs lo hi) (cutD ds lo hi) []:=by
 unfold yu cutD
 rw [r.length]
 obtain ⟨L1,L2,e,_,h2⟩:=r.cut (HT.sIx ds.length 0 lo)
 have e2:=(List.append_eq_nil_iff.mp e.symm).2
 subst e2
 obtain ⟨L1,L2,e,h1,_⟩:=h2.cut (HT.sIx ds.length ds.length hi - HT.sIx ds.length 0 lo)
 have e1:=(List.append_eq_nil_iff.mp e.symm).1
 subst e1
 exact h1
theorem Cm {K:PySem.W.Frag} {F:Addr->Prop} {H:Hp} {x:V} {d f:D} {L:List Addr} {lo hi:Option Int} {Q:VK} (r:Rp K F H x d L) (e:dSl d lo hi=some f) (q:∀ v H' Lf,Out K F H f v H' Lf->Q v H'):xm K x lo hi H Q:=by
 unfold dSl at e
 split at e
 ·split at e
  ·rename_i hs
   cases e
   obtain ⟨a,vs,L1,rfl,ha,ra,_⟩:=r.lst_at
   cases ra.sh_nil hs
   exact .inl ⟨_,_,rfl,.of ha,fun p hp=>q _ _ _ (.list hp (ra.cutR lo hi))⟩
  ·cases e
 ·split at e
  ·rename_i hs
   cases e
   rw [Bool.and_eq_true] at hs
   obtain ⟨a,vs,rfl,ha,ra⟩:=r.tup_at
   cases ra.sh_nil hs.1
   refine .inr ⟨_,_,rfl,ha,?_,fun p hp=>q _ _ _ (.tuple hp (ra.cutR lo hi))⟩
   rw [ra.length]
   intro hc
   have:=hs.2
   rw [decide_eq_true hc] at this
   cases this
  ·cases e
 ·cases e
section
variable {X:Cx} {e idx:Expr} {o oi:Opd} {pos p2:Pos}
theorem JG:SlR X (xm X.K):=Og.or Tf
theorem vH (he:SO X e o) (hi:SO X idx oi):SE X (.Subscript e (.Slice (some idx) none none p2) pos) (sSlFrom o oi):=
 (zH JG he (Ds hi) Dr).wk fun σ H Q h=>by
  have t:=gK (K:=X.K) (r:=fun vs H Q=>∃ x l,vs=[x,.int l]∧xm X.K x (some l) none H Q) (fun F H vs ds f Q r e q=>by
   split at e
   ·obtain ⟨x,y,L,M,rfl,r1,r2⟩:=r.two
    cases r2.isInt
    exact ⟨x,_,rfl,Cm r1 e q⟩
   ·cases e) h
  refine jB (fun x H1 t1=>?_) (eH t)
  refine jB (fun y H2 t2=>?_) (eH t1)
  obtain ⟨F,ρ,Ls,R,Qd,w,q,k⟩:=t2
  obtain ⟨x',l,e,q⟩:=k [] H2 [] ρ F Ls [] .nil w Step.refl q
  cases e
  exact ⟨l,rfl,q⟩
theorem Oa (he:SO X e o) (hi:SO X idx oi):SE X (.Subscript e (.Slice none (some idx) none p2) pos) (sSlTo o oi):=
 (zH JG he Dr (Ds hi)).wk fun σ H Q h=>by
  have t:=gK (K:=X.K) (r:=fun vs H Q=>∃ x l,vs=[x,.int l]∧xm X.K x none (some l) H Q) (fun F H vs ds f Q r e q=>by
   split at e
   ·obtain ⟨x,y,L,M,rfl,r1,r2⟩:=r.two
    cases r2.isInt
    exact ⟨x,_,rfl,Cm r1 e q⟩
   ·cases e) h
  refine jB (fun x H1 t1=>?_) (eH t)
  refine jB (fun y H2 t2=>?_) (eH t1)
  obtain ⟨F,ρ,Ls,R,Qd,w,q,k⟩:=t2
  obtain ⟨x',l,e,q⟩:=k [] H2 [] ρ F Ls [] .nil w Step.refl q
  cases e
  exact ⟨l,rfl,q⟩
end
theorem Known.sem {P:Program} {w:World} {K:PySem.W.Frag} {mg:Str->Option Value} {base:Heap} {x:Str} {st:Stmt} {ps N:List Str} {k:Nat} {io:Bool} {b:bW} (h:Known K mg x st ps) (S:FnScope N ps (aF st)) (ht:P.given.tree=none)
  (hb:∀ (X:Cx) (cdv:Value) (f:Addr) (A:Around) (outer:List Env) (s:Shared) (H:Hp) (E:XK),X=(qO CX0 P w K mg base N x (aF st) f cdv A outer s H E).nox->Cc X k->SL X (kpF io) (fY st) b) :
  Prm P w K mg base x (k+1) ps (aW K ps.length io (fnS ps.length (N.length - ps.length) io b)):=by
 obtain ⟨f,fd,F,bd,g⟩:=h
 obtain ⟨oc,od,kV,doc,pm,an,cdv,ct,osl,rfl,lk,hcd⟩:=F.ex
 refine ⟨f,_,Hk lk hcd S fun A outer s H E hr=>?_,bd,g,F.kp⟩
 have hc:Cc (qO CX0 P w K mg base N x (aF st) f cdv A outer s H E).nox k:=⟨rfl,hr,ht,⟨_,_,rfl,S.gen,S.co,rfl,rfl⟩⟩
 exact PSs.nox (hb _ cdv f A outer s H E rfl hc)
section
variable {X:Cx} {x:Str} {k n:Nat} {ps:List Str} {sf:bV} {e:Expr} {es:List Expr} {os:List Opd} {p pos:Pos}
theorem bu (h:Prm X.prog X.w X.K X.mg X.base x k ps (aW X.K n false sf)) (hr:Room k X.A) (hg:Gl X x) (ha:SA X (e :: es) os)
  (hdb:(x==("__debug__" : Str))=false:=by decide) (he:starEach (e :: es) X.env=(false,eval e X.env) :: starEach es X.env:=by rfl) (hpl:(backTo pos (starEach es X.env)).any (·.1)=false:=by rfl) :
  SE X (.Call (.Name x p) (e :: es) [] pos) (aM n sf os):=by
 obtain ⟨f,fd,F,b,g,kp⟩:=h
 exact NK F hr hg g kp b Do ha hdb he hpl
theorem bH {i:Nat} (h:Prm X.prog X.w X.K X.mg X.base x k ps (aW X.K n true sf)) (hr:Room k X.A) (hg:Gl X x) (ha:SA X (e :: es) (.nam i :: os))
  (hdb:(x==("__debug__" : Str))=false:=by decide) (he:starEach (e :: es) X.env=(false,eval e X.env) :: starEach es X.env:=by rfl) (hpl:(backTo pos (starEach es X.env)).any (·.1)=false:=by rfl) :
  SE X (.Call (.Name x p) (e :: es) [] pos) (aD n sf i os):=by
 obtain ⟨f,fd,F,b,g,kp⟩:=h
 exact Ju F hr hg g kp b Do ha hdb he hpl
theorem sv (i:Nat) {pos:Pos} (hN:X.N[i]? = some x:=by rfl) (hv:Vis X.env.scope x:=by first | exact Or.inl rfl | exact Or.inr (Or.inl rfl) | exact Or.inr (Or.inr rfl)) (hd:(x==("__debug__" : Str))=false:=by decide)
  (hcd:(x==("__classdict__" : Str))=false:=by decide):SE X (.Name x pos) (aL i):=SX hN hv hd hcd
theorem sn (i:Nat) {pos:Pos} (hN:X.N[i]? = some x:=by rfl) (hv:Vis X.env.scope x:=by first | exact Or.inl rfl | exact Or.inr (Or.inl rfl) | exact Or.inr (Or.inr rfl)) (hd:(x==("__debug__" : Str))=false:=by decide)
  (hcd:(x==("__classdict__" : Str))=false:=by decide):SO X (.Name x pos) (.nam i):=Tg hN hv hd hcd
end
noncomputable def qt (g g':List D->Option D) (o1 o2 o3:Opd):aZ:=fun ρ Q=>dD [o1,o2] ρ fun as ρ1=>∃ d j b,aY ρ1 as=some [d,.int j]∧g [d,.int j]=some (.bl b) ∧
 if b=true then dD [o3] ρ1 fun as2 ρ2=>∃ f c,aY ρ2 as2=some [f]∧g' [.int j,f]=some (.bl c)∧Q (.bl c) ρ2 else Q (.bl false) ρ1
section
variable {X:Cx} {a b c:Expr} {o1 o2 o3:Opd} {pos:Pos} {r r':R2} {g g':List D->Option D} {K:PySem.W.Frag} {σ : St} {H:Hp}
theorem JZ (hg:bM K (r2 r) g) (hg':bM K (r2 r') g') {Q:VK} (h:gM K (qt g g' o1 o2 o3) σ H Q):JR r r' (pM K o1) (pM K o2) (pM K o3) σ H Q:=by
 obtain ⟨F,ρ,Ls,R,Qd,w,q,k⟩:=h
 have t:oE K [o1,o2] σ H fun vs H1=>∃ x y,vs=[x,y]∧r x y H1 fun z H3=>∃ b,z = .bl b∧(if b=true then pM K o3 σ H3 fun w' H4=>r' y w' H4 Q else Q (.bl false) H3):=by
  refine ⟨F,ρ,Ls,R,_,w,q,fun vs H1 as ρ1 F1 Ls1 La r1 w1 s1 ⟨d,j,b,e1,e2,q1⟩=>?_⟩
  obtain ⟨x,y,L,M,rfl,rx,ry⟩:=(r1.at w1 e1).two
  cases ry.isInt
  obtain ⟨x',y',e',rr⟩:=hg F1 H1 [x,.int j] [d,.int j] (.bl b) (fun z H3=>∃ b,z = .bl b∧(if b=true then pM K o3 σ H3 fun w' H4=>r' (.int j) w' H4 Q else Q (.bl false) H3)) (.cons rx (.cons (.int j) .nil)) e2 fun v H' Lf o=>by
   obtain ⟨rf,o⟩:=o
   cases rf.isBl
   refine ⟨b,rfl,?_⟩
   have hH:H'=H1 ∨ ∃ p u,H1 p=none∧H'=upd H1 p u:=by
    rcases o with ⟨z,_⟩ | ⟨p,hn,⟨xs,z,_⟩ | ⟨xs,z,_⟩⟩
    ·exact .inl z
    ·exact .inr ⟨p,_,hn,z⟩
    ·exact .inr ⟨p,_,hn,z⟩
   have w2:WS K F1 H' σ ρ1 Ls1 R∧Step F H Ls F1 H' Ls1 []:=by
    have w1':=w1.less (List.sublist_append_right La R)
    have s1':=s1.more (Ld2:=[]) fun a h=>absurd h (by simp)
    rcases hH with rfl | ⟨p,u,hn,rfl⟩
    ·exact ⟨w1',s1'⟩
    ·exact ⟨w1'.laid hn,s1'.trans (Step.laid hn)⟩
   obtain ⟨w2,s2⟩:=w2
   cases b with
   | false=>
    rw [if_neg Bool.false_ne_true] at q1 ⊢
    exact k _ H' _ ρ1 F1 Ls1 [] (.bl false) w2 s2 q1
   | true=>
    rw [if_pos rfl] at q1 ⊢
    have t3:oE K [o3] σ H' fun vs H4=>∃ w',vs=[w']∧r' (.int j) w' H4 Q:=by
     refine ⟨F1,ρ1,Ls1,R,_,w2,q1,fun vs H4 as2 ρ2 F2 Ls2 La2 r3 w3 s3 ⟨f,c,e3,e4,q3⟩=>?_⟩
     obtain ⟨w',L',rfl,rw'⟩:=(r3.at w3 e3).one
     obtain ⟨x',y',e',rr⟩:=hg' F2 H4 [.int j,w'] [.int j,f] (.bl c) Q (.cons (.int j) (.cons rw' .nil)) e4 fun v H5 Lf o=>by
      obtain ⟨rf,o⟩:=o
      cases rf.isBl
      have w3':=w3.less (List.sublist_append_right La2 R)
      have s3':=(s2.trans s3).more (Ld2:=[]) fun a h=>absurd h (by simp)
      rcases o with ⟨z,_⟩ | ⟨p,hn,⟨xs,z,_⟩ | ⟨xs,z,_⟩⟩
      ·subst z;exact k _ _ _ ρ2 F2 Ls2 [] (.bl c) w3' s3' q3
      ·subst z;exact k _ _ _ ρ2 F2 Ls2 [] (.bl c) (w3'.laid hn) (s3'.trans (Step.laid hn)) q3
      ·subst z;exact k _ _ _ ρ2 F2 Ls2 [] (.bl c) (w3'.laid hn) (s3'.trans (Step.laid hn)) q3
     cases e'
     exact ⟨w',rfl,rr⟩
    exact BV t3
  cases e'
  exact ⟨x,.int j,rfl,rr⟩
 refine jB (fun x H1 t1=>?_) (eH t)
 refine jB (fun y H2 t2=>?_) (eH t1)
 obtain ⟨F,ρ,Ls,R,Qd,w,q,k⟩:=t2
 obtain ⟨x',y',e',rr⟩:=k [] H2 [] ρ F Ls [] .nil w Step.refl q
 cases e'
 exact rr
theorem zW {op op':CmpOp} (ho:OpR X (compareOp op) r) (ho':OpR X (compareOp op') r') (hg:bM X.K (r2 r) g) (hg':bM X.K (r2 r') g') (ha:SO X a o1) (hb:SO X b o2) (hc:SO X c o3)
  (hm:lastMarks [op,op'] [b,c]=false:=by with_unfolding_all rfl):SE X (.Compare a [op,op'] [b,c] pos) (qt g g' o1 o2 o3):=
 (IK ho ho' ha hb hc hm).wk fun σ H Q h=>JZ hg hg' h
end
theorem QX {K:PySem.W.Frag} {sf:bV} {H:Hp} {a:Addr} {ns:List Int} (hO:Only H) (hS:SqL K H a (ns.map V.int)) (h:sf [.scr ns] fun r _=>r = .bl true) {E:XK}:aW K 1 false sf [.ref a] H (fun v _=>v = .bl true) E:=by
 have sc:qF K H a ns:=by
  rcases hS with h | h
  ·rcases h with h | ⟨o,h⟩
   ·rcases hO a with z | ⟨o,xs,z⟩
    ·rw [h] at z;cases z
    ·rw [h] at z;cases z
   ·exact .inl ⟨o,h⟩
  ·exact .inr h
 refine ⟨rfl,fun _=>False,[.scr ns],fun _=>[],[],_,?_,fun _ _=>rfl,h,fun v H' r x F' Ls' Lr rr _ _ e=>?_⟩
 ·exact {
   len:=rfl
   sl:=fun i d e=>by
    cases i with
    | zero=>simp at e;subst e;exact ⟨_,rfl,.scr sc⟩
    | succ i=>simp at e
   em:=fun _ _=>rfl
   nd:=fun _=>List.nodup_nil
   dj:=fun _ _ _ h _=>absurd h (by simp)
   rd:=List.nodup_nil
   rj:=fun _ _ h=>absurd h (by simp)
   nf:=fun _ _ h=>absurd h (by simp)
   nr:=fun _ h=>absurd h (by simp)
   tr:=fun _ h=>absurd h (by simp)
   ft:=fun _ h=>h.elim }
 ·subst e
  exact rr.isBl
theorem Kg {l:PySem.W.OpenLaw} {q:Program} {loose:List Str} {XP:(Str->Option Value)->Heap->Prop} {YP:World->Heap->Prop} {d:DefRec} {K:Params->PySem.W.Frag} {k:Nat} {x:Str} {sf:bV} (hn:l.most=some 63) (hdf:d.params.defaults=[]) (himp:importsNone q=true)
  (hr:Room k callerA) (hY:∀ (w:World) (h:Heap),YP w h->(K w.params).In h) (hs:∀ ns:List Int,ns.length<=63->sf [.scr ns] fun r _=>r = .bl true)
  (F:∀ (w:World) (mg:Str->Option Value) (fa:Addr) (h:Heap),(K w.params).In h->h.Ns mainGlobals mg->mg d.name=some (.ref fa) ->
   ∃ fd:FuncData,(∀ (s:Shared) (u:Value),PySem.BindsTo s fd ⟨[u],[]⟩ [(x,u)]) ∧ ∀ base:Heap,(K w.params).In base->base.Ns mainGlobals mg->FnOk l.prog w (K w.params) mg base CX0 k fa fd [x] (aW (K w.params) 1 false sf)) :
  PySem.W.WalkO q loose XP YP l.row.toRowW d [] (fun f vs=>PySem.call f vs):=
 L2.Ow (n:=63) (k:=k) (x:=x) (CX:=fun _=>CX0) (sp:=fun w=>aW (K w.params) 1 false sf) hn (by decide) hdf himp hr hY F (fun _ _ a ns hl hO hS=>QX hO hS (hs ns hl)) fun _ _ _ _ _ z=>z
theorem Fun.sem {P:Program} {w:World} {K:PySem.W.Frag} {mg:Str->Option Value} {base:Heap} {x:Str} {st:Stmt} {f:Addr} {fd:FuncData} {ps N:List Str} {k:Nat} {io:Bool} {b:bW} (F:Fun K x x st f fd) (S:FnScope N ps (aF st)) (ht:P.given.tree=none)
  (hb:∀ (X:Cx) (cdv:Value) (f:Addr) (A:Around) (outer:List Env) (s:Shared) (H:Hp) (E:XK),X=(qO CX0 P w K mg base N x (aF st) f cdv A outer s H E).nox->Cc X k->SL X (kpF io) (fY st) b) :
  FnOk P w K mg base CX0 (k+1) f fd ps (aW K ps.length io (fnS ps.length (N.length - ps.length) io b)):=by
 obtain ⟨oc,od,kV,doc,pm,an,cdv,ct,osl,rfl,lk,hcd⟩:=F.ex
 refine Hk lk hcd S fun A outer s H E hr=>?_
 have hc:Cc (qO CX0 P w K mg base N x (aF st) f cdv A outer s H E).nox k:=⟨rfl,hr,ht,⟨_,_,rfl,S.gen,S.co,rfl,rfl⟩⟩
 exact PSs.nox (hb _ cdv f A outer s H E rfl hc)
noncomputable def pX:List D->Option D
 | [.int i,.int j]=>some (.int (i - j))
 | _=>none
noncomputable def yw:List D->Option D
 | [.int i,.int j]=>if j=0 then none else some (.int (i.fdiv j))
 | _=>none
noncomputable def lZ:List D->Option D
 | [.int i,.int j]=>if j=0 then none else some (.int (i.fmod j))
 | _=>none
noncomputable def vX:List D->Option D
 | [.int i,.int j]=>if (decide (0<=j)&&decide (j<=1000000)&&decide (i.natAbs<2 ^ 64))=true then some (.int (i ^ j.toNat)) else none
 | _=>none
noncomputable def KY:List D->Option D
 | [.int i]=>some (.int (-i))
 | _=>none
noncomputable def dLt:List D->Option D
 | [.int i,.int j]=>some (.bl (decide (i<j)))
 | _=>none
noncomputable def dLe:List D->Option D
 | [.int i,.int j]=>some (.bl (decide (i<=j)))
 | _=>none
noncomputable def dGt:List D->Option D
 | [.int i,.int j]=>some (.bl (decide (j<i)))
 | _=>none
noncomputable def dGe:List D->Option D
 | [.int i,.int j]=>some (.bl (decide (j<=i)))
 | _=>none
section
variable {K:PySem.W.Frag}
theorem qZ {gv:Int->Int->V} {gd:Int->Int->D} {g:List D->Option D} (hg:∀ ds f,g ds=some f -> ∃ i j,ds=[.int i,.int j]∧f=gd i j) (hf:∀ i j,(gd i j).flat=some (gv i j)):bM K (r2 (rI0 gv)) g:=by
 intro F H vs ds f Q r e q
 obtain ⟨i,j,rfl,rfl⟩:=hg ds f e
 obtain ⟨x,y,L,M,rfl,r1,r2⟩:=r.two
 cases r1.isInt;cases r2.isInt
 exact ⟨_,_,rfl,_,_,rfl,rfl,q _ _ _ (.ofFlat (hf i j))⟩
theorem rY {C:Int->Int->Prop} {gv:Int->Int->V} {gd:Int->Int->D} {g:List D->Option D} (hg:∀ ds f,g ds=some f -> ∃ i j,ds=[.int i,.int j]∧f=gd i j∧C i j) (hf:∀ i j,(gd i j).flat=some (gv i j)):bM K (r2 (rI C gv)) g:=by
 intro F H vs ds f Q r e q
 obtain ⟨i,j,rfl,rfl,c⟩:=hg ds f e
 obtain ⟨x,y,L,M,rfl,r1,r2⟩:=r.two
 cases r1.isInt;cases r2.isInt
 exact ⟨_,_,rfl,_,_,rfl,rfl,c,q _ _ _ (.ofFlat (hf i j))⟩
theorem jH:bM K (r2 (rI0 fun i j=>.int (i - j))) pX:=qZ (gd:=fun i j=>.int (i - j)) (fun ds f e=>by unfold pX at e;split at e <;> cases e;exact ⟨_,_,rfl,rfl⟩) fun _ _=>rfl
theorem rm:bM K (r2 (rI0 fun i j=>.bl (decide (i<j)))) dLt:=qZ (gd:=fun i j=>.bl (decide (i<j))) (fun ds f e=>by unfold dLt at e;split at e <;> cases e;exact ⟨_,_,rfl,rfl⟩) fun _ _=>rfl
theorem oV:bM K (r2 (rI0 fun i j=>.bl (decide (i<=j)))) dLe:=qZ (gd:=fun i j=>.bl (decide (i<=j))) (fun ds f e=>by unfold dLe at e;split at e <;> cases e;exact ⟨_,_,rfl,rfl⟩) fun _ _=>rfl
theorem qY:bM K (r2 (rI0 fun i j=>.bl (decide (j<i)))) dGt:=qZ (gd:=fun i j=>.bl (decide (j<i))) (fun ds f e=>by unfold dGt at e;split at e <;> cases e;exact ⟨_,_,rfl,rfl⟩) fun _ _=>rfl
theorem uZ:bM K (r2 (rI (fun _ j=>j≠0) fun i j=>.int (i.fdiv j))) yw:=rY (gd:=fun i j=>.int (i.fdiv j)) (fun ds f e=>by
 unfold yw at e
 split at e
 ·split at e
  ·cases e
  ·cases e;exact ⟨_,_,rfl,rfl,by assumption⟩
 ·cases e) fun _ _=>rfl
theorem gr:bM K (r2 (rI (fun _ j=>j≠0) fun i j=>.int (i.fmod j))) lZ:=rY (gd:=fun i j=>.int (i.fmod j)) (fun ds f e=>by
 unfold lZ at e
 split at e
 ·split at e
  ·cases e
  ·cases e;exact ⟨_,_,rfl,rfl,by assumption⟩
 ·cases e) fun _ _=>rfl
theorem sH:bM K (r2 (rI TV fun i j=>.int (i ^ j.toNat))) vX:=rY (gd:=fun i j=>.int (i ^ j.toNat)) (fun ds f e=>by
 unfold vX at e
 split at e
 ·split at e
  ·rename_i h
   cases e
   rw [Bool.and_eq_true,Bool.and_eq_true,decide_eq_true_eq,decide_eq_true_eq,decide_eq_true_eq] at h
   exact ⟨_,_,rfl,rfl,h.1.1,h.1.2,h.2⟩
  ·cases e
 ·cases e) fun _ _=>rfl
theorem Hb:bM K (fun vs H Q=>∃ x,vs=[x]∧rU (fun i=>.int (-i)) x H Q) KY:=by
 intro F H vs ds f Q r e q
 unfold KY at e
 split at e
 ·cases e
  obtain ⟨x,L,rfl,r1⟩:=r.one
  cases r1.isInt
  exact ⟨_,rfl,_,rfl,q _ _ _ (.ofFlat rfl)⟩
 ·cases e
end
theorem goN (is:List Nat):∀ g∈is.map gN,∀ d ρ Q,g d ρ Q -> ∃ ρ',Q ρ':=fun g hg d ρ Q h=>by
 obtain ⟨i,_,rfl⟩:=List.mem_map.mp hg
 exact ⟨_,h⟩
noncomputable def ndB:List Str->Bool
 | []=>true
 | x :: xs=>!(xs.any fun y=>x==y)&&ndB xs
theorem cX:∀ {xs:List Str},ndB xs=true->xs.Nodup
 | [],_=>List.nodup_nil
 | x :: xs,h=>by
  rw [ndB,Bool.and_eq_true] at h
  refine List.nodup_cons.mpr ⟨fun m=>?_,cX h.2⟩
  have:(xs.any fun y=>x==y)=true:=List.any_eq_true.mpr ⟨x,m,by simp⟩
  rw [this] at h
  cases h.1
noncomputable def yt (osc:List (Str×NameKind)) (N:List Str) (scope:Scope) (own:List Str) (fr:List Nat):Bool:=
 (match scope.kind with | .function=>true | _=>false)&&ndB (scope.names.map (·.1))&&(scope.names.all fun y=>match y.2 with | .free=>(match osc.lookup y.1 with | some .cell=>true | some .free=>true | _=>false) | _=>true) &&
 (fr.all fun j=>decide (j<N.length)&&(match scope.names.lookup (N.getD j "") with | some .free=>true | _=>false))&&ndB (own++fr.map fun j=>N.getD j "")
theorem CScope.of {X:Cx} {scope:Scope} {own:List Str} {fr:List Nat} (h:yt X.env.scope.names X.N scope own fr=true):CScope X scope own fr:=by
 unfold yt at h
 rw [Bool.and_eq_true,Bool.and_eq_true,Bool.and_eq_true,Bool.and_eq_true] at h
 obtain ⟨⟨⟨⟨h1,h2⟩,h3⟩,h4⟩,h5⟩:=h
 have keys:=cX h2
 exact {
  kind:=by
   revert h1
   cases scope.kind <;> simp
  keys:=keys
  names:=fun y hy e=>by rw [← e];exact dq keys hy
  free:=fun n hn=>by
   have:=List.all_eq_true.mp h3 _ hn
   show X.env.scope.names.lookup n=some .cell∨X.env.scope.names.lookup n=some .free
   revert this
   simp only
   split
   ·rename_i e;intro _;exact .inl e
   ·rename_i e;intro _;exact .inr e
   ·intro z;cases z
  frs:=fun j hj=>by
   have:=List.all_eq_true.mp h4 _ hj
   rw [Bool.and_eq_true,decide_eq_true_eq] at this
   refine ⟨this.1,?_⟩
   have z:=this.2
   revert z
   split
   ·rename_i e;intro _;exact e
   ·intro z;cases z
  nd:=cX h5 }
theorem Ql:bootBuiltins "abs" = some (.builtin "abs"):=by first | exact PyProof.Rows.boot_abs | exact PySem.boot_abs
theorem GD:bootBuiltins "min" = some (.builtin "min"):=by first | exact PyProof.Rows.boot_min | exact PySem.boot_min
theorem Qm:bootBuiltins "max" = some (.builtin "max"):=by first | exact PyProof.Rows.boot_max | exact PySem.boot_max
theorem lL:bootBuiltins "len" = some (.builtin "len"):=by first | exact PyProof.Rows.boot_len | exact PySem.boot_len
theorem cQ:bootBuiltins "isinstance" = some (.builtin "isinstance"):=by first | exact PyProof.Rows.boot_isinstance | exact PySem.boot_isinstance
theorem mq:bootBuiltins "all" = some (.builtin "all"):=by first | exact PyProof.Rows.boot_all | exact PySem.boot_all
theorem pQ:bootBuiltins "int" = some (.type "int"):=by first | exact PyProof.Rows.boot_int | exact PySem.boot_int
theorem vQ:bootBuiltins "bool" = some (.type "bool"):=by first | exact PyProof.Rows.boot_bool | exact PySem.boot_bool
theorem eF:bootBuiltins "tuple" = some (.type "tuple"):=by first | exact PyProof.Rows.boot_tuple | exact PySem.boot_tuple
theorem kI:bootBuiltins "str" = some (.type "str"):=by first | exact PyProof.Rows.boot_str | exact PySem.boot_str
noncomputable def HX (i:Nat) (ρ ρ':En) (r:D):Prop:=r.clean=true ∧ ∀ (j:Nat) (dj:D),j≠i -> ρ'[j]? = some (some dj)->dj.clean=true∨(dj.sh=true ∧ ρ[j]? = some (some dj))
noncomputable def PX (i:Nat) (s:aZ):aZ:=fun ρ Q=>∃ d,ρ[i]? = some (some d)∧s (ρ.set i (some d.fz)) fun r ρ'=>(HX i ρ ρ' r∧Q r (ρ'.set i (some d)))∨Q r ρ'
noncomputable def sI (ρ : En):List Nat->En
 | []=>ρ
 | j :: js=>(sI ρ js).set j none
noncomputable def qL (js:List Nat) (b:bW):bW:=fun ρ E=>b (sI ρ js) E
theorem WS.drop {K:PySem.W.Frag} {F:Addr->Prop} {H:Hp} {σ : St} {ρ : En} {Ls:Nat->List Addr} {R:List Addr} (j:Nat) (w:WS K F H σ ρ Ls R):WS K F H σ (ρ.set j none) (jq Ls j []) R where
 len:=by rw [List.length_set];exact w.len
 sl:=fun i d e=>by
  by_cases c:i=j
  ·subst c
   rw [List.getElem?_set] at e
   simp at e
  ·rw [List.getElem?_set_ne (Ne.symm c)] at e
   rw [aQ c];exact w.sl i d e
 em:=fun i hi=>by
  by_cases c:i=j
  ·rw [c,aH]
  ·rw [aQ c]
   exact w.em i fun d e=>hi d (by rw [List.getElem?_set_ne (Ne.symm c)];exact e)
 nd:=fun i=>by
  by_cases c:i=j
  ·rw [c,aH];exact List.nodup_nil
  ·rw [aQ c];exact w.nd i
 dj:=fun i k a h1 h2=>by
  by_cases c:i=j
  ·rw [c,aH] at h1;simp at h1
  ·by_cases c2:k=j
   ·rw [c2,aH] at h2;simp at h2
   ·rw [aQ c] at h1;rw [aQ c2] at h2;exact w.dj i k a h1 h2
 rd:=w.rd
 rj:=fun i a m=>by
  by_cases c:i=j
  ·rw [c,aH] at m;simp at m
  ·rw [aQ c] at m;exact w.rj i a m
 nf:=fun i a m=>by
  by_cases c:i=j
  ·rw [c,aH] at m;simp at m
  ·rw [aQ c] at m;exact w.nf i a m
 nr:=w.nr
 tr:=w.tr
 ft:=w.ft
theorem Step.drop {F:Addr->Prop} {H:Hp} {Ls:Nat->List Addr} (j:Nat):Step F H Ls F H (jq Ls j []) []:=⟨fun _ _ e _=>e,fun _ h=>h,fun i a m=>by
 by_cases c:i=j
 ·rw [c,aH] at m;simp at m
 ·rw [aQ c] at m;exact .inl ⟨i,m⟩,fun a h=>absurd h (by simp)⟩
theorem WS.drops {K:PySem.W.Frag} {F:Addr->Prop} {H:Hp} {σ : St} {ρ : En} {Ls:Nat->List Addr} {R:List Addr} (w:WS K F H σ ρ Ls R):∀ js:List Nat,∃ Ls',WS K F H σ (sI ρ js) Ls' R∧Step F H Ls F H Ls' []
 | []=>⟨Ls,w,Step.refl⟩
 | j :: js=>let ⟨L1,w1,s1⟩:=WS.drops w js;⟨_,w1.drop j,s1.trans (Step.drop j)⟩
theorem DY {X:Cx} {kp:Nat->Bool} {st:List Stmt} {b:bW} (js:List Nat) (h:SL X kp st b):SL X kp st (qL js b):=
 PSs.wk h fun D σ H hh27=>by
  obtain ⟨F,ρ,Ls,R,E,w,q,p⟩:=hh27
  obtain ⟨L1,w1,s1⟩:=w.drops js
  exact ⟨F,_,L1,R,E,w1,q,p.step s1 fun _ _=>rfl⟩
end L2
namespace Z
open PySem L2
noncomputable def iR:bV:=fnS 2 3 false
 (aC (bh 2 (sC (.int 0)))
 (aC (sIf (tB' (sDo dLt [.nam 1,.val (sDo jY [.nam 0])]))
 (bh 2 (sDo GP [.val (cY 0 (.nam 1))]))
 (bJ))
 (aC (bh 3 (sDo lZ [.val (sDo vX [.val (sDo bC [.val (sDo bC [.val (sDo lZ [.nam 2,.val (sC (.int 2147483629))]),.val (sDo oR [.val (sC (.int 104729)),.nam 1])]),.val (sC (.int 17))]),.val (sC (.int 5))]),.val (sC (.int 2147483647))]))
 (aC (iB (di (.val (sDo yC [.val (sDo jY [.nam 0]),.val (sC (.int 60))]))) (gN 4)
 (bh 3 (sDo lZ [.val (sDo bC [.val (sDo bC [.val (sDo oR [.nam 3,.val (sC (.int 48271))]),.val (sDo oR [.val (sDo lZ [.val (cY 0 (.nam 4)),.val (sC (.int 2147483587))]),.val (sDo bC [.nam 4,.val (sC (.int 3))])])]),.nam 4]),.val (sC (.int 2147483629))])))
 (aC (sIf (tB' (sDo dLt [.nam 2,.val (sDo vX [.val (sC (.int 10)),.val (sC (.int 18))])]))
 (bh 2 (sC (.int 0)))
 (bJ))
 (bR (eE [.val (aL 2),.val (aL 3)])))))))
noncomputable def ao:bV:=fnS 2 1 true
 (aC (sIf (tB' (sDo dGt [.val (cY 0 (.val (sC (.int 0)))),.val (sC (.int 0))]))
 (aC (bh 2 (sDo lZ [.val (cY 0 (.val (sC (.int 0)))),.nam 1]))
 (aC (tQ 0 (sDo yw [.val (cY 0 (.val (sC (.int 0)))),.nam 1]) (.val (sC (.int 0))))
 (tO 2)))
 (bJ))
 (aC (tQ 0 (sDo lZ [.val (sDo bC [.val (sDo oR [.val (cY 0 (.val (sC (.int 1)))),.val (sC (.int 48271))]),.val (sC (.int 7919))]),.val (sC (.int 2147483647))]) (.val (sC (.int 1))))
 (bR (sDo lZ [.val (sDo lZ [.val (sDo oR [.val (sDo yw [.val (sDo lZ [.val (sDo vX [.val (cY 0 (.val (sC (.int 1)))),.val (sC (.int 3))]),.val (sC (.int 2147483587))]),.val (sC (.int 7))]),.val (sC (.int 69621))]),.val (sC (.int 1073741789))]),.nam 1]))))
end Z
namespace L2
open PySem PySem.Spec PyProof.Rows
noncomputable def aJ {α : Type} (o:Option α) (k : α -> Prop):Prop:=∃ a,o=some a∧k a
theorem An {α : Type} (a : α) (k : α -> Prop):aJ (some a) k=k a:=by simp [aJ]
theorem Am {α : Type} (k : α -> Prop):aJ none k=False:=by simp [aJ]
noncomputable def dG (a b:Prop):Prop:=a∧b
theorem El (b:Prop):dG True b=b:=by simp [dG]
theorem Al (b:Prop):dG False b=False:=by simp [dG]
noncomputable def kO (c:Bool) (a b:Prop):Prop:=if c=true then a else b
theorem vo (a b:Prop):kO true a b=a:=by simp [kO]
theorem sU (a b:Prop):kO false a b=b:=by simp [kO]
theorem Mf {c:Prop} [Decidable c] {a b:Prop} (h1:c->a) (h2:¬ c->b):kO (decide c) a b:=by
 unfold kO
 by_cases h:c
 ·rw [if_pos (by simpa using h)];exact h1 h
 ·rw [if_neg (by simpa using h)];exact h2 h
theorem QK {c:Bool} {a b:Prop} (h1:c=true->a) (h2:c=false->b):kO c a b:=by
 cases c with
 | true=>rw [vo];exact h1 rfl
 | false=>rw [sU];exact h2 rfl
noncomputable def rN (f:bV) (ds:List D) (Q:D->Option D->Prop):Prop:=f ds Q
noncomputable def slot:En->Nat->Option D
 | [],_=>none
 | x :: _,0=>x
 | _ :: r,n+1=>slot r n
theorem cF:∀ {ρ : En} {i:Nat} {d:D},ρ[i]? = some (some d)↔slot ρ i=some d
 | [],i,d=>by simp [slot]
 | x :: r,0,d=>by simp [slot]
 | x :: r,i+1,d=>by simp only [List.getElem?_cons_succ,slot];exact cF
theorem slot_cons0 (x:Option D) (r:En):slot (x :: r) 0=x:=rfl
theorem slot_consS (x:Option D) (r:En) (n:Nat):slot (x :: r) (n+1)=slot r n:=rfl
theorem getAD_nam (ρ : En) (i:Nat):AD.get ρ (.nam i)=slot ρ i:=by
 show (ρ[i]?).getD none=_
 cases h : ρ[i]? with
 | none=>
  cases q:slot ρ i with
  | none=>rfl
  | some d=>rw [cF.mpr q] at h;cases h
 | some o=>
  cases o with
  | none=>
   cases q:slot ρ i with
   | none=>rfl
   | some d=>rw [cF.mpr q] at h;cases h
  | some d=>rw [cF.mp h];rfl
theorem getAD_val (ρ : En) (d:D):AD.get ρ (.val d)=some d:=rfl
theorem getAll_nil (ρ : En):aY ρ []=some []:=rfl
noncomputable def rP (o:Option D) (os:Option (List D)):Option (List D):=match o,os with
 | some d,some ds=>some (d :: ds)
 | _,_=>none
theorem consO_some (d:D) (ds:List D):rP (some d) (some ds)=some (d :: ds):=rfl
theorem getAll_cons' (ρ : En) (a:AD) (as:List AD):aY ρ (a :: as)=rP (a.get ρ) (aY ρ as):=by
 rw [aY];unfold rP;rfl
section
variable (ρ : En) (Q:D->En->Prop) (E:EndD) (QB:Bool->En->Prop)
theorem ev_C (d:D):sC d ρ Q=Q d ρ:=rfl
theorem ev_Var (i:Nat):aL i ρ Q=aJ (slot ρ i) fun d=>kO d.sh (Q d ρ) (Q d.fz (ρ.set i (some d.fz))):=by
 simp only [aL,aJ,cF,kO]
theorem ev_ops_nil (K:List AD->En->Prop):dD [] ρ K=K [] ρ:=rfl
theorem ev_ops_val (s:aZ) (os:List Opd) (K:List AD->En->Prop):dD (.val s :: os) ρ K=s ρ fun d ρ1=>dD os ρ1 fun as ρ2=>K (.val d :: as) ρ2:=rfl
theorem ev_ops_nam (i:Nat) (os:List Opd) (K:List AD->En->Prop):dD (.nam i :: os) ρ K=aJ (slot ρ i) fun _=>dD os ρ fun as ρ2=>K (.nam i :: as) ρ2:=by
 simp only [dD,aJ,cF,exists_and_right]
theorem ev_Do (g:List D->Option D) (os:List Opd):sDo g os ρ Q=dD os ρ fun as ρ'=>aJ (aY ρ' as) fun ds=>aJ (g ds) fun f=>Q f ρ':=by
 simp only [sDo,aJ]
 congr 1
 funext as ρ'
 simp only [exists_and_left]
theorem ev_Tup (os:List Opd):gb os ρ Q=dD os ρ fun as ρ'=>aJ (aY ρ' as) fun ds=>dG (namsSh ρ' as=true) (dG (ds.length<=sizeLine) (Q (.tup ds) ρ')):=by
 simp only [gb,aJ,dG]
theorem ev_Lst (os:List Opd):eE os ρ Q=dD os ρ fun as ρ'=>aJ (aY ρ' as) fun ds=>dG (namsSh ρ' as=true) (dG (ds.length<=sizeLine) (Q (.lst true ds) ρ')):=by
 simp only [eE,aJ,dG]
noncomputable def D.bo:D->Option Bool
 | .bl b=>some b
 | _=>none
theorem ev_B (s:aZ):tB' s ρ QB=s ρ fun d ρ'=>aJ d.bo fun b=>QB b ρ':=by
 simp only [tB',aJ]
 congr 1
 funext d ρ'
 cases d <;> simp [D.bo]
theorem ev_And (t u:eV):Vz t u ρ QB=t ρ fun b ρ'=>kO b (u ρ' QB) (QB false ρ'):=rfl
theorem ev_Or (t u:eV):jr t u ρ QB=t ρ fun b ρ'=>kO b (QB true ρ') (u ρ' QB):=rfl
theorem ev_Not (t:eV):cP t ρ QB=t ρ fun b ρ'=>QB (!b) ρ':=rfl
theorem ev_AndV (s u:aZ):jw s u ρ Q=s ρ fun d ρ'=>aJ d.bo fun b=>kO b (u ρ' Q) (Q (.bl false) ρ'):=by
 simp only [jw,aJ,kO]
 congr 1
 funext d ρ'
 cases d <;> simp [D.bo]
theorem ev_OrV (s u:aZ):Js s u ρ Q=s ρ fun d ρ'=>aJ d.bo fun b=>kO b (Q (.bl true) ρ') (u ρ' Q):=by
 simp only [Js,aJ,kO]
 congr 1
 funext d ρ'
 cases d <;> simp [D.bo]
theorem ev_NotV (s:aZ):DP s ρ Q=s ρ fun d ρ'=>aJ d.bo fun b=>Q (.bl (!b)) ρ':=by
 simp only [DP,aJ]
 congr 1
 funext d ρ'
 cases d <;> simp [D.bo]
theorem ev_IfE (t:eV) (s u:aZ):Gb t s u ρ Q=t ρ fun b ρ'=>kO b (s ρ' Q) (u ρ' Q):=rfl
noncomputable def oneO:Option (List D)->Option D
 | some [d]=>some d
 | _=>none
theorem ev_Tru (o:Opd):eQ o ρ QB=dD [o] ρ fun as ρ'=>aJ (oneO (aY ρ' as)) fun d=>aJ d.tru fun b=>QB b ρ':=by
 simp only [eQ,aJ]
 congr 1
 funext as ρ'
 apply propext
 constructor
 ·rintro ⟨d,b,h1,h2,h3⟩
  exact ⟨d,by rw [h1];rfl,b,h2,h3⟩
 ·rintro ⟨d,h1,b,h2,h3⟩
  refine ⟨d,b,?_,h2,h3⟩
  revert h1
  unfold oneO
  split
  ·rename_i e;intro z;cases z;exact e
  ·intro z;cases z
theorem ev_Call (n:Nat) (f:bV) (os:List Opd):aM n f os ρ Q=dD os ρ fun as ρ'=>aJ (aY ρ' as) fun ds=>dG (ds.length=n) (rN f (D.fzs ds) fun r _=>Q r (aft ρ' as r.clean)):=by
 simp only [aM,aJ,dG,rN]
theorem ev_CallM (n:Nat) (f:bV) (i:Nat) (os:List Opd):aD n f i os ρ Q=aJ (slot ρ i) fun _=>dD os ρ fun as ρ'=>aJ (slot ρ' i) fun d0=>aJ (aY ρ' as) fun ds=>
  dG (ds.length+1=n) (dG (i ∉ namsOf as) (rN f (d0 :: D.fzs ds) fun r x=>dG ((namsSh ρ' as||(r.clean&&clO x))=true) (Q r (ρ'.set i x)))):=by
 unfold aD
 rw [ev_ops_nam]
 simp only [aJ,dG,rN,cF]
 congr 1
 funext a
 congr 1
 congr 1
 funext as ρ'
 apply propext
 constructor
 ·rintro ⟨d0,as',ds,e,h1,h2,h3,h4,h5⟩
  cases e
  exact ⟨d0,h1,ds,h2,h3,h4,h5⟩
 ·rintro ⟨d0,h1,ds,h2,h3,h4,h5⟩
  exact ⟨d0,as,ds,rfl,h1,h2,h3,h4,h5⟩
theorem pA {as:List AD} {kd:D} (h:oneO (aY ρ as)=some kd):∃ a,as=[a]∧a.get ρ = some kd:=by
 cases as with
 | nil=>simp [aY,oneO] at h
 | cons a r=>
  cases r with
  | nil=>
   refine ⟨a,rfl,?_⟩
   rw [getAll_cons',getAll_nil] at h
   cases q:a.get ρ with
   | none=>rw [q] at h;simp [rP,oneO] at h
   | some d=>rw [q] at h;simp [rP,oneO] at h;rw [h]
  | cons b r=>
   rw [getAll_cons',getAll_cons'] at h
   cases q:a.get ρ <;> cases q2:b.get ρ <;> cases q3:aY ρ r <;> simp [q,q2,q3,rP,oneO] at h
theorem Dk {a:AD} {kd:D} (h:a.get ρ = some kd):oneO (aY ρ [a])=some kd:=by
 rw [getAll_cons',getAll_nil,h];rfl
noncomputable def D.intO:D->Option Int
 | .int k=>some k
 | _=>none
theorem jL {d:D} {k:Int}:d.intO=some k↔d = .int k:=by cases d <;> simp [D.intO]
theorem ev_IxN (i:Nat) (oi:Opd):cY i oi ρ Q=aJ (slot ρ i) fun _=>dD [oi] ρ fun as ρ'=>aJ (slot ρ' i) fun c=>aJ (oneO (aY ρ' as)) fun kd=>aJ kd.intO fun k=>aJ (ixF c k) fun p=>Q p.1 (putO ρ' i p.2):=by
 unfold cY
 rw [ev_ops_nam]
 congr 1
 funext _
 congr 1
 funext as ρ'
 apply propext
 simp only [aJ,cF]
 constructor
 ·rintro ⟨a,c,k,f,t,e,h1,h2,h3,h4⟩
  cases e
  exact ⟨c,h1,_,Dk ρ' h2,k,rfl,(f,t),h3,h4⟩
 ·rintro ⟨c,h1,kd,h2,k,h3,⟨f,t⟩,h4,h5⟩
  obtain ⟨a,rfl,h6⟩:=pA ρ' h2
  rw [jL.mp h3] at h6
  exact ⟨a,c,k,f,t,rfl,h1,h6,h4,h5⟩
noncomputable def D.ownO:D->Option (List D)
 | .lst true ds=>some ds
 | _=>none
theorem zE {d:D} {ds:List D}:d.ownO=some ds↔d = .lst true ds:=by
 cases d with
 | lst o ds'=>cases o <;> simp [D.ownO]
 | _=>simp [D.ownO]
noncomputable def D.isLst:D->Bool
 | .lst _ _=>true
 | _=>false
theorem ev_Mut (g:yf) (i:Nat) (os:List Opd):iC g i os ρ Q=aJ (slot ρ i) fun d0=>dG (d0.isLst=true) (dD os ρ fun as ρ'=>aJ (slot ρ' i) fun c=>aJ c.ownO fun ds=>aJ (aY ρ' as) fun es=>dG (namsSh ρ' as=true) (aJ (g ds es) fun p=>Q p.2 (ρ'.set i (some (.lst true p.1))))):=by
 unfold iC
 simp only [aJ,dG,cF]
 have e:(fun (as:List AD) (ρ':En)=>∃ ds es ds' rd,slot ρ' i=some (.lst true ds)∧aY ρ' as=some es∧namsSh ρ' as=true∧g ds es=some (ds',rd)∧Q rd (ρ'.set i (some (.lst true ds')))) =
   fun as ρ'=>∃ a,slot ρ' i=some a ∧ ∃ a_1,a.ownO=some a_1 ∧ ∃ a,aY ρ' as=some a∧namsSh ρ' as=true ∧ ∃ a_2,g a_1 a=some a_2∧Q a_2.2 (ρ'.set i (some (.lst true a_2.1))):=by
  funext as ρ'
  apply propext
  constructor
  ·rintro ⟨ds,es,ds',rd,h1,h2,h3,h4,h5⟩
   exact ⟨_,h1,ds,rfl,es,h2,h3,(ds',rd),h4,h5⟩
  ·rintro ⟨c,h1,ds,h2,es,h3,h4,⟨ds',rd⟩,h5,h6⟩
   exact ⟨ds,es,ds',rd,by rw [h1,zE.mp h2],h3,h4,h5,h6⟩
 rw [e]
 apply propext
 constructor
 ·rintro ⟨⟨o,ds,h1⟩,h2⟩
  exact ⟨_,h1,rfl,h2⟩
 ·rintro ⟨d0,h1,h2,h3⟩
  refine ⟨?_,h3⟩
  cases d0 with
  | lst o ds=>exact ⟨o,ds,h1⟩
  | _=>cases h2
theorem ev_Chain (g g':List D->Option D) (o1 o2 o3:Opd):qt g g' o1 o2 o3 ρ Q=dD [o1,o2] ρ fun as ρ1=>aJ (match aY ρ1 as with | some [d,.int j]=>some (d,j) | _=>none) fun p=>aJ ((g [p.1,.int p.2]).bind D.bo) fun b=>
  kO b (dD [o3] ρ1 fun as2 ρ2=>aJ (oneO (aY ρ2 as2)) fun f=>aJ ((g' [.int p.2,f]).bind D.bo) fun c=>Q (.bl c) ρ2) (Q (.bl false) ρ1):=by
 have bo:∀ {o:Option D} {b:Bool},o.bind D.bo=some b↔o=some (.bl b):=fun {o b}=>by
  cases o with
  | none=>simp
  | some d=>cases d <;> simp [D.bo]
 unfold qt
 congr 1
 funext as ρ1
 apply propext
 simp only [aJ,kO,bo]
 have two:∀ {p:D×Int},(match aY ρ1 as with | some [d,.int j]=>some (d,j) | _=>none)=some p↔aY ρ1 as=some [p.1,.int p.2]:=fun {p}=>by
  split
  ·rename_i d j e
   constructor
   ·intro z;cases z;exact e
   ·intro z;rw [e] at z;cases z;rfl
  ·rename_i h
   constructor
   ·intro z;cases z
   ·intro z;exact absurd z (h _ _)
 have inner:∀ (j:Int),(dD [o3] ρ1 fun as2 ρ2=>∃ f c,aY ρ2 as2=some [f]∧g' [.int j,f]=some (.bl c)∧Q (.bl c) ρ2)=(dD [o3] ρ1 fun as2 ρ2=>∃ f,oneO (aY ρ2 as2)=some f ∧ ∃ c,g' [.int j,f]=some (.bl c)∧Q (.bl c) ρ2):=fun j=>by
  congr 1
  funext as2 ρ2
  apply propext
  constructor
  ·rintro ⟨f,c,h1,h2,h3⟩
   exact ⟨f,by rw [h1];rfl,c,h2,h3⟩
  ·rintro ⟨f,h1,c,h2,h3⟩
   obtain ⟨a,rfl,h6⟩:=pA ρ2 h1
   exact ⟨f,c,by rw [getAll_cons',getAll_nil,h6];rfl,h2,h3⟩
 constructor
 ·rintro ⟨d,j,b,h1,h2,h3⟩
  exact ⟨(d,j),two.mpr h1,b,h2,by rw [← inner];exact h3⟩
 ·rintro ⟨⟨d,j⟩,h1,b,h2,h3⟩
  exact ⟨d,j,b,two.mp h1,h2,by rw [inner];exact h3⟩
theorem ev_Seq (s u:bW):aC s u ρ E=s ρ ⟨fun ρ'=>u ρ' E,E.rt,E.bk,E.ct⟩:=rfl
theorem ev_Next:bJ ρ E=E.nx ρ:=rfl
theorem ev_Never:jt ρ E=False:=rfl
theorem ev_Break:Sy ρ E=E.bk ρ:=rfl
theorem ev_Cont:Vo ρ E=E.ct ρ:=rfl
theorem ev_If (t:eV) (s u:bW):sIf t s u ρ E=t ρ fun b ρ'=>kO b (s ρ' E) (u ρ' E):=rfl
theorem ev_Expr (e:aZ):dW e ρ E=e ρ fun _ ρ'=>E.nx ρ':=rfl
theorem ev_Ret (e:aZ):bR e ρ E=e ρ fun d ρ'=>E.rt d ρ':=rfl
theorem ev_RetN:Vq ρ E=E.rt .non ρ:=rfl
theorem ev_RetV (i:Nat):tO i ρ E=aJ (slot ρ i) fun d=>E.rt d (ρ.set i none):=by simp only [tO,aJ,cF]
theorem ev_Set (i:Nat) (e:aZ):bh i e ρ E=e ρ fun d ρ'=>E.nx (ρ'.set i (some d)):=rfl
theorem ev_Asg (g:dY) (e:aZ):mG g e ρ E=e ρ fun d ρ'=>g d ρ' E.nx:=rfl
theorem ev_gN (i:Nat) (d:D) (P:En->Prop):gN i d ρ P=P (ρ.set i (some d)):=rfl
noncomputable def D.tupO:D->Option (List D)
 | .tup ds=>some ds
 | _=>none
theorem ev_gT (gs:List dY) (d:D) (P:En->Prop):gT gs d ρ P=aJ d.tupO fun ds=>gGo gs ds ρ P:=by
 cases d <;> simp [gT,aJ,D.tupO]
theorem ev_gGo_nil (P:En->Prop):gGo [] [] ρ P=P ρ:=rfl
theorem ev_gGo_cons (g:dY) (gs:List dY) (d:D) (ds:List D) (P:En->Prop):gGo (g :: gs) (d :: ds) ρ P=g d ρ fun ρ'=>gGo gs ds ρ' P:=rfl
noncomputable def twoO:Option (List D)->Option (D×D)
 | some [d,e]=>some (d,e)
 | _=>none
theorem Ae {o:Option (List D)} {p:D×D}:twoO o=some p↔o=some [p.1,p.2]:=by
 unfold twoO
 split
 ·constructor
  ·intro z;cases z;rfl
  ·intro z;cases z;rfl
 ·rename_i h
  constructor
  ·intro z;cases z
  ·intro z;exact absurd z (h _ _)
theorem ev_Par (i j:Nat) (os:List Opd):Vp i j os ρ E=dD os ρ fun as ρ'=>aJ (twoO (aY ρ' as)) fun p=>dG (namsSh ρ' as=true) (E.nx ((ρ'.set i (some p.1)).set j (some p.2))):=by
 simp only [Vp,aJ,dG,Ae]
 congr 1
 funext as ρ'
 apply propext
 constructor
 ·rintro ⟨d,e,h1,h2,h3⟩;exact ⟨(d,e),h1,h2,h3⟩
 ·rintro ⟨⟨d,e⟩,h1,h2,h3⟩;exact ⟨d,e,h1,h2,h3⟩
theorem ev_Aug (f:Int->Int->Int) (i:Nat) (se:aZ):Vn f i se ρ E=aJ ((slot ρ i).bind D.intO) fun n=>se ρ fun d ρ'=>aJ d.intO fun m=>E.nx (ρ'.set i (some (.int (f n m)))):=by
 simp only [Vn,aJ,cF,jL,Option.bind_eq_some_iff]
 apply propext
 constructor
 ·rintro ⟨n,h1,h2⟩;exact ⟨n,⟨_,h1,rfl⟩,h2⟩
 ·rintro ⟨n,⟨d,h1,h2⟩,h3⟩;exact ⟨n,by rw [h1,h2],h3⟩
theorem ev_SetIx (i:Nat) (se:aZ) (oi:Opd):tQ i se oi ρ E=aJ (slot ρ i) fun _=>se ρ fun d ρ1=>dD [oi] ρ1 fun as ρ'=>aJ (oneO (aY ρ' as)) fun kd=>aJ kd.intO fun k=>aJ (slot ρ' i) fun c=>aJ c.ownO fun ds=>aJ (ixN ds.length k) fun j=>E.nx (ρ'.set i (some (.lst true (ds.set j d)))):=by
 unfold tQ
 simp only [ev_ops_val]
 apply propext
 have e:(fun (d:D) (ρ1:En)=>dD [oi] ρ1 fun as ρ2=>∃ d_1 a ds k j,AD.val d :: as=[.val d_1,a]∧a.get ρ2=some (.int k) ∧ ρ2[i]? = some (some (.lst true ds))∧ixN ds.length k=some j∧E.nx (ρ2.set i (some (.lst true (ds.set j d_1))))) =
   fun d ρ1=>dD [oi] ρ1 fun as ρ'=>aJ (oneO (aY ρ' as)) fun kd=>aJ kd.intO fun k=>aJ (slot ρ' i) fun c=>aJ c.ownO fun ds=>aJ (ixN ds.length k) fun j=>E.nx (ρ'.set i (some (.lst true (ds.set j d)))):=by
  funext d ρ1
  congr 1
  funext as ρ'
  apply propext
  simp only [aJ]
  constructor
  ·rintro ⟨d1,a,ds,k,j,h0,h1,h2,h3,h4⟩
   cases h0
   exact ⟨_,Dk ρ' h1,k,rfl,_,cF.mp h2,ds,rfl,j,h3,h4⟩
  ·rintro ⟨kd,h1,k,h2,c,h3,ds,h4,j,h5,h6⟩
   obtain ⟨a,rfl,h7⟩:=pA ρ' h1
   exact ⟨d,a,ds,k,j,rfl,by rw [h7,jL.mp h2],by rw [cF,h3,zE.mp h4],h5,h6⟩
 rw [e]
 simp only [aJ,cF]
 constructor
 ·rintro ⟨⟨d,h1⟩,h2⟩;exact ⟨d,h1,h2⟩
 ·rintro ⟨d,h1,h2⟩;exact ⟨⟨d,h1⟩,h2⟩
theorem ev_For (i:lK) (g:dY) (b:bW):iB i g b ρ E=i ρ fun ds ρ'=>forL g b ds ρ' E:=rfl
theorem ev_Comp (si:lK) (nO:Nat) (fr:List Nat) (g:dY) (t:eV) (el:aZ):bN si nO fr g t el ρ Q=si ρ fun ds ρ1=>iK g t el ds (cSt nO fr ρ1) fun es ρc=>Q (.lst true es) (wb ρ1 fr (ρc.drop nO)):=rfl
theorem ev_Yes:cI ρ QB=QB true ρ:=rfl
variable (QI:List D->En->Prop)
theorem ev_Range1 (o:Opd):di o ρ QI=dD [o] ρ fun as ρ'=>aJ (oneO (aY ρ' as)) fun d=>aJ d.intO fun j=>dG (-(2 ^ 62)<=j∧j<2 ^ 62∧j.toNat<=sizeLine) (QI (ou 0 j.toNat) ρ'):=by
 unfold di
 congr 1
 funext as ρ'
 apply propext
 simp only [aJ,dG]
 constructor
 ·rintro ⟨j,h1,h2,h3⟩;exact ⟨_,by rw [h1];rfl,j,rfl,h2,h3⟩
 ·rintro ⟨d,h1,j,h2,h3,h4⟩
  obtain ⟨a,rfl,h7⟩:=pA ρ' h1
  exact ⟨j,by rw [getAll_cons',getAll_nil,h7,jL.mp h2];rfl,h3,h4⟩
theorem ev_Range2 (o o':Opd):nj o o' ρ QI=dD [o,o'] ρ fun as ρ'=>aJ (twoO (aY ρ' as)) fun p=>aJ p.1.intO fun i=>aJ p.2.intO fun j=>dG (-(2 ^ 62)<=i∧i<2 ^ 62 ∧ -(2 ^ 62)<=j∧j<2 ^ 62∧(j - i).toNat<=sizeLine) (QI (ou i (j - i).toNat) ρ'):=by
 unfold nj
 congr 1
 funext as ρ'
 apply propext
 simp only [aJ,dG,Ae]
 constructor
 ·rintro ⟨i,j,h1,h2,h3⟩;exact ⟨(_,_),h1,i,rfl,j,rfl,h2,h3⟩
 ·rintro ⟨⟨d,e⟩,h1,i,h2,j,h3,h4,h5⟩
  exact ⟨i,j,by rw [h1,jL.mp h2,jL.mp h3],h4,h5⟩
noncomputable def D.seqO:D->Option (List D)
 | .lst _ ds=>some (D.fzs ds)
 | .tup ds=>some (D.fzs ds)
 | .scr ns=>some (ns.map D.int)
 | _=>none
theorem ev_Seq' (s:aZ):cM s ρ QI=s ρ fun d ρ'=>aJ d.seqO fun ds=>dG (ds.length<=sizeLine) (QI ds ρ'):=by
 unfold cM
 congr 1
 funext d ρ'
 cases d <;> simp [aJ,dG,D.seqO,D.fzs_eq]
noncomputable def D.lstO:D->Option (List D)
 | .lst _ ds=>some (D.fzs ds)
 | _=>none
theorem ev_Zip (s u:aZ):Pq s u ρ QI=s ρ fun d ρ1=>u ρ1 fun e ρ2=>aJ d.lstO fun xs=>aJ e.lstO fun ys=>dG (xs.length<=sizeLine) (QI (Wg xs ys) ρ2):=by
 unfold Pq
 simp only [ev_ops_val,ev_ops_nil]
 congr 1
 funext d ρ1
 congr 1
 funext e ρ2
 apply propext
 simp only [aJ,dG]
 constructor
 ·rintro ⟨o,xs,o',ys,h,h2,h3⟩
  cases h
  exact ⟨_,rfl,_,rfl,by rw [D.fzs_eq,List.length_map];exact h2,h3⟩
 ·rintro ⟨xs,h1,ys,h2,h3,h4⟩
  cases d with
  | lst o xs'=>
   cases e with
   | lst o' ys'=>
    cases h1;cases h2
    exact ⟨o,xs',o',ys',rfl,by rw [D.fzs_eq,List.length_map] at h3;exact h3,h4⟩
   | _=>cases h2
  | _=>cases h1
theorem ev_Enum (s:aZ):Hu s ρ QI=s ρ fun d ρ1=>aJ d.lstO fun xs=>dG (xs.length<=sizeLine) (QI (Hg 0 xs) ρ1):=by
 unfold Hu
 simp only [ev_ops_val,ev_ops_nil]
 congr 1
 funext d ρ1
 apply propext
 simp only [aJ,dG]
 constructor
 ·rintro ⟨o,xs,h,h2,h3⟩
  cases h
  exact ⟨_,rfl,by rw [D.fzs_eq,List.length_map];exact h2,h3⟩
 ·rintro ⟨xs,h1,h3,h4⟩
  cases d with
  | lst o xs'=>
   cases h1
   exact ⟨o,xs',rfl,by rw [D.fzs_eq,List.length_map] at h3;exact h3,h4⟩
  | _=>cases h1
end
theorem ev_fn (n m:Nat) (io:Bool) (b:bW) (ds:List D) (Q:D->Option D->Prop):fnS n m io b ds Q=dG (ds.length=n) (b (ds.map some++List.replicate m none) ⟨fun ρ => Q .non (qQ io ρ),fun d ρ => Q d (qQ io ρ),fun _=>False,fun _=>False⟩):=rfl
theorem nx_mk (a:En->Prop) (b:D->En->Prop) (c d:En->Prop) (ρ : En):EndD.nx ⟨a,b,c,d⟩ ρ = a ρ:=rfl
theorem rt_mk (a:En->Prop) (b:D->En->Prop) (c d:En->Prop) (x:D) (ρ : En):EndD.rt ⟨a,b,c,d⟩ x ρ = b x ρ:=rfl
theorem bk_mk (a:En->Prop) (b:D->En->Prop) (c d:En->Prop) (ρ : En):EndD.bk ⟨a,b,c,d⟩ ρ = c ρ:=rfl
theorem ct_mk (a:En->Prop) (b:D->En->Prop) (c d:En->Prop) (ρ : En):EndD.ct ⟨a,b,c,d⟩ ρ = d ρ:=rfl
theorem ioOf_f (ρ : En):qQ false ρ = none:=rfl
theorem ioOf_t (ρ : En):qQ true ρ = slot ρ 0:=by
 unfold qQ
 rw [if_pos rfl]
 exact getAD_nam ρ 0
theorem namsSh_val (ρ : En) (d:D) (as:List AD):namsSh ρ (.val d :: as)=namsSh ρ as:=rfl
theorem namsSh_nam (ρ : En) (i:Nat) (as:List AD):namsSh ρ (.nam i :: as)=((match slot ρ i with | some d=>d.sh | none=>true)&&namsSh ρ as):=by
 show ((match ρ[i]? with | some (some d)=>d.sh | _=>true)&&namsSh ρ as)=_
 congr 1
 cases h:slot ρ i with
 | some d=>rw [cF.mpr h]
 | none=>
  split
  ·rename_i d e;rw [cF.mp e] at h;cases h
  ·rfl
end L2
namespace L2
theorem aft_ev (ρ : En) (as:List AD) (b:Bool):aft ρ as b=cond (namsSh ρ as||b) ρ (dC ρ (namsOf as)):=by
 unfold aft
 cases (namsSh ρ as||b) <;> rfl
theorem shAll_nil (ρ : En):dC ρ [] = ρ:=rfl
theorem shAll_cons (ρ : En) (i:Nat) (is:List Nat):dC ρ (i :: is)=(match slot (dC ρ is) i with | some d=>(dC ρ is).set i (some d.fz) | none=>dC ρ is):=by
 show (match (dC ρ is)[i]? with | some (some d)=>(dC ρ is).set i (some d.fz) | _=>dC ρ is)=_
 cases h:slot (dC ρ is) i with
 | some d=>rw [cF.mpr h]
 | none=>
  split
  ·rename_i d e;rw [cF.mp e] at h;cases h
  ·rfl
end L2
namespace L2
open PySem
inductive Lz {α : Sort u} (a : α):Type where
 | mk
noncomputable def lz {α : Sort u} (a : α):Lz a:=.mk
noncomputable def bindL {α : Type} (o:Option α) {k : α -> Prop} (_:Lz k):Prop:=aJ o k
noncomputable def Ku (a:Prop) {b:Prop} (_:Lz b):Prop:=dG a b
noncomputable def HB (c:Bool) {a b:Prop} (_:Lz a) (_:Lz b):Prop:=kO c a b
noncomputable def Uh (f:bV) (ds:List D) {Q:D->Option D->Prop} (_:Lz Q):Prop:=f ds Q
noncomputable def Wm (g:dY) (b:bW) (ds:List D) (ρ : En) {E:EndD} (_:Lz E):Prop:=forL g b ds ρ E
noncomputable def Uj (g:dY) (t:eV) (el:aZ) (ds:List D) (ρ : En) {Q:List D->En->Prop} (_:Lz Q):Prop:=iK g t el ds ρ Q
noncomputable def Tz (t:eV) (b:bW) (ρ : En) {E:EndD} (_:Lz E):Prop:=Jt t b ρ E
theorem bindO_eq {α : Type} (o:Option α) (k : α -> Prop):aJ o k=bindL o (lz k):=rfl
theorem andP_eq (a b:Prop):dG a b=Ku a (lz b):=rfl
theorem iteP_eq (c:Bool) (a b:Prop):kO c a b=HB c (lz a) (lz b):=rfl
theorem callF_eq (f:bV) (ds:List D) (Q:D->Option D->Prop):rN f ds Q=Uh f ds (lz Q):=rfl
theorem forL_eq (g:dY) (b:bW) (ds:List D) (ρ : En) (E:EndD):forL g b ds ρ E=Wm g b ds ρ (lz E):=rfl
theorem compL_eq (g:dY) (t:eV) (el:aZ) (ds:List D) (ρ : En) (Q:List D->En->Prop):iK g t el ds ρ Q=Uj g t el ds ρ (lz Q):=rfl
theorem sWhile_eq (t:eV) (b:bW) (ρ : En) (E:EndD):Jt t b ρ E=Tz t b ρ (lz E):=rfl
theorem bindL_some {α : Type} (a : α) (k : α -> Prop) (z:Lz k):bindL (some a) z=k a:=An a k
theorem bindL_none {α : Type} (k : α -> Prop) (z:Lz k):bindL none z=False:=Am k
theorem andL_true (b:Prop) (z:Lz b):Ku True z=b:=El b
theorem andL_false (b:Prop) (z:Lz b):Ku False z=False:=Al b
theorem iteL_true (a b:Prop) (z:Lz a) (y:Lz b):HB true z y=a:=vo a b
theorem iteL_false (a b:Prop) (z:Lz a) (y:Lz b):HB false z y=b:=sU a b
theorem oZ {c:Prop} [Decidable c] {a b:Prop} {z:Lz a} {y:Lz b} (h1:c->a) (h2:¬ c->b):HB (decide c) z y:=Mf h1 h2
theorem qb {c:Bool} {a b:Prop} {z:Lz a} {y:Lz b} (h1:c=true->a) (h2:c=false->b):HB c z y:=QK h1 h2
theorem aR {a b:Prop} {z:Lz b} (h:a) (k:b):Ku a z:=⟨h,k⟩
section
variable (i j:Int) (x y:D) (xs ys:List D) (o o':Bool) (b:Bool)
theorem dAdd_int:bC [.int i,.int j]=some (.int (i+j)):=rfl
theorem dAdd_lst (h:xs.length+ys.length<=sizeLine) (h1:D.shs xs=true) (h2:D.shs ys=true):bC [.lst o xs,.lst o' ys]=some (.lst true (xs++ys)):=by
 show (if _ then _ else _)=_
 rw [if_pos ⟨h,h1,h2⟩]
theorem dAdd_tup (h:xs.length+ys.length<=sizeLine) (h1:D.shs xs=true) (h2:D.shs ys=true):bC [.tup xs,.tup ys]=some (.tup (xs++ys)):=by
 show (if _ then _ else _)=_
 rw [if_pos ⟨h,h1,h2⟩]
theorem dSub_int:pX [.int i,.int j]=some (.int (i - j)):=rfl
theorem dMul_int (h:my i j=true):oR [.int i,.int j]=some (.int (i*j)):=by
 show (if _ then _ else _)=_
 rw [if_pos h]
theorem dFdiv_int (h:j≠0):yw [.int i,.int j]=some (.int (i.fdiv j)):=by
 show (if _ then _ else _)=_
 rw [if_neg h]
theorem dMod_int (h:j≠0):lZ [.int i,.int j]=some (.int (i.fmod j)):=by
 show (if _ then _ else _)=_
 rw [if_neg h]
theorem dNeg_int:KY [.int i]=some (.int (-i)):=rfl
theorem dLt_int:dLt [.int i,.int j]=some (.bl (decide (i<j))):=rfl
theorem dLe_int:dLe [.int i,.int j]=some (.bl (decide (i<=j))):=rfl
theorem dGt_int:dGt [.int i,.int j]=some (.bl (decide (j<i))):=rfl
theorem dGe_int:dGe [.int i,.int j]=some (.bl (decide (j<=i))):=rfl
theorem dEq_int:dEq [.int i,.int j]=some (.bl (i==j)):=rfl
theorem dNe_int:dNe [.int i,.int j]=some (.bl (!(i==j))):=rfl
theorem dLen_lst:jY [.lst o xs]=some (.int xs.length):=rfl
theorem dLen_tup:jY [.tup xs]=some (.int xs.length):=rfl
theorem dLen_scr (ns:List Int):jY [.scr ns]=some (.int ns.length):=rfl
theorem dAbs_int:GP [.int i]=some (.int (if i<0 then -i else i)):=rfl
theorem dMin_int:yC [.int i,.int j]=some (.int (if j<i then j else i)):=rfl
theorem dMax_int:Ep [.int i,.int j]=some (.int (if j>i then j else i)):=rfl
theorem dInt_int:uo [.int i]=some (.int i):=rfl
theorem dInt_bl:uo [.bl b]=some (.int (if b then 1 else 0)):=rfl
theorem dIsN_:yz [x,.non]=some (.bl x.isNon):=rfl
theorem dNotN_:rR [x,.non]=some (.bl (!x.isNon)):=rfl
theorem dListOf_lst (h:D.shs xs=true):Cj [.lst o xs]=some (.lst true xs):=by
 show (if _ then _ else _)=_
 rw [if_pos h]
theorem dListOf_tup (h:D.shs xs=true):Cj [.tup xs]=some (.lst true xs):=by
 show (if _ then _ else _)=_
 rw [if_pos h]
theorem dTupOf_lst (h:D.shs xs=true):fK [.lst o xs]=some (.tup xs):=by
 show (if _ then _ else _)=_
 rw [if_pos h]
theorem sZ (h:xs.length<sizeLine):cG xs [x]=some (xs++[x],.non):=by
 show (if _ then _ else _)=_
 rw [if_pos h]
theorem Ue {α : Type} (a : α) (l:List α):atI (a :: l) 0=some a:=by
 have e:ixN (a :: l).length 0=some 0:=by unfold ixN;simp
 unfold atI;rw [e];rfl
theorem Ug {α : Type} (a c : α) (l:List α):atI (a :: c :: l) 1=some c:=by
 have e:ixN (a :: c :: l).length 1=some 1:=by unfold ixN;simp;omega
 unfold atI;rw [e];rfl
theorem nq {k:Int} {d:D} (h:atI xs k=some d) (hs:d.sh=true):ixF (.lst o xs) k=some (d,none):=by
 have e:dIx [.lst o xs,.int k]=some d:=by
  show (atI xs k).bind _=_
  rw [h];simp [hs]
 unfold ixF;rw [e]
theorem cu {k:Int} {d:D} (h:atI xs k=some d) (hs:d.sh=true):ixF (.tup xs) k=some (d,none):=by
 have e:dIx [.tup xs,.int k]=some d:=by
  show (atI xs k).bind _=_
  rw [h];simp [hs]
 unfold ixF;rw [e]
theorem CN {ns:List Int} {k n:Int} (h:atI ns k=some n):ixF (.scr ns) k=some (.int n,none):=by
 have e:dIx [.scr ns,.int k]=some (.int n):=by
  show (atI ns k).map D.int=_
  rw [h];rfl
 unfold ixF;rw [e]
theorem ixF_l0 (h:x.sh=true):ixF (.lst o (x :: xs)) 0=some (x,none):=nq _ _ (Ue x xs) h
theorem ixF_l1 (h:y.sh=true):ixF (.lst o (x :: y :: xs)) 1=some (y,none):=nq _ _ (Ug x y xs) h
theorem ixF_t0 (h:x.sh=true):ixF (.tup (x :: xs)) 0=some (x,none):=cu _ (Ue x xs) h
theorem ixF_t1 (h:y.sh=true):ixF (.tup (x :: y :: xs)) 1=some (y,none):=cu _ (Ug x y xs) h
theorem ixN0 (n:Nat):ixN (n+1) 0=some 0:=by unfold ixN;simp
theorem ixN1 (n:Nat):ixN (n+1+1) 1=some 1:=by unfold ixN;simp;omega
end
theorem putO_none (ρ : En) (i:Nat):putO ρ i none = ρ:=rfl
theorem putO_some (ρ : En) (i:Nat) (c:D):putO ρ i (some c) = ρ.set i (some c):=rfl
noncomputable def Pu (c:Prop) {a b:Prop} (_:Lz a) (_:Lz b):Prop:=(c∧a)∨b
theorem ev_Drop (ρ : En) (E:EndD) (js:List Nat) (b:bW):qL js b ρ E=b (sI ρ js) E:=rfl
theorem dropL_nil (ρ : En):sI ρ [] = ρ:=rfl
theorem dropL_cons (ρ : En) (j:Nat) (js:List Nat):sI ρ (j :: js)=(sI ρ js).set j none:=rfl
theorem ev_Keep (ρ : En) (Q:D->En->Prop) (i:Nat) (s:aZ):PX i s ρ Q=aJ (slot ρ i) fun d=>s (ρ.set i (some d.fz)) fun r ρ'=>Pu (HX i ρ ρ' r) (lz (Q r (ρ'.set i (some d)))) (lz (Q r ρ')):=by
 simp only [PX,aJ,cF,Pu]
end L2
namespace Z
noncomputable def sg (t b:Int):Int:=if b<0 then -(Int.gcd t b:Int) else (Int.gcd t b:Int)
noncomputable def low (t b:Int):Int×Int:=(t.fdiv (sg t b),b.fdiv (sg t b))
theorem vI {t b:Int} (h:b≠0):sg t b≠0:=by
 have:0<Int.gcd t b:=Int.gcd_pos_iff.mpr (.inr h)
 unfold sg;split <;> omega
theorem Tc (t b:Int):(sg t b).natAbs=Int.gcd t b:=by
 unfold sg;split <;> omega
theorem nC (t b:Int):t=sg t b*(low t b).1:=by
 have hd:sg t b ∣ t:=by
  unfold sg;split
  ·exact Int.neg_dvd.mpr (Int.gcd_dvd_left ..)
  ·exact Int.gcd_dvd_left ..
 show t=sg t b*t.fdiv (sg t b)
 rw [Int.mul_fdiv_cancel' hd]
theorem lO (t b:Int):b=sg t b*(low t b).2:=by
 have hd:sg t b ∣ b:=by
  unfold sg;split
  ·exact Int.neg_dvd.mpr (Int.gcd_dvd_right ..)
  ·exact Int.gcd_dvd_right ..
 show b=sg t b*b.fdiv (sg t b)
 rw [Int.mul_fdiv_cancel' hd]
theorem rC {t b:Int} (h:b≠0):0<(low t b).2:=by
 have e:=lO t b
 have hg:0<Int.gcd t b:=Int.gcd_pos_iff.mpr (.inr h)
 by_cases hb:b<0
 ·have es:sg t b = -(Int.gcd t b:Int):=by unfold sg;rw [if_pos hb]
  rw [es] at e
  by_cases hq:0<(low t b).2
  ·exact hq
  ·exfalso
   have:0<=(Int.gcd t b:Int) * -(low t b).2:=Int.mul_nonneg (by omega) (by omega)
   rw [Int.mul_neg] at this
   rw [Int.neg_mul] at e
   omega
 ·have es:sg t b=(Int.gcd t b:Int):=by unfold sg;rw [if_neg hb]
  rw [es] at e
  by_cases hq:0<(low t b).2
  ·exact hq
  ·exfalso
   have:0<=(Int.gcd t b:Int) * -(low t b).2:=Int.mul_nonneg (by omega) (by omega)
   rw [Int.mul_neg] at this
   omega
theorem wH {t b:Int} (h:b≠0):Int.gcd (low t b).1 (low t b).2=1:=by
 have hg:0<Int.gcd t b:=Int.gcd_pos_iff.mpr (.inr h)
 have e1:=nC t b
 have e2:=lO t b
 have e:Int.gcd t b=Int.gcd (sg t b*(low t b).1) (sg t b*(low t b).2):=by rw [← e1,← e2]
 rw [Int.gcd_mul_left,Tc] at e
 exact (Nat.mul_left_cancel hg (by rw [Nat.mul_one];exact e)).symm
theorem nM {a b c:Int} (e:a=b*c) (h:b≠0):c.natAbs<=a.natAbs:=by
 rw [e,Int.natAbs_mul]
 exact Nat.le_mul_of_pos_left _ (by omega)
theorem Mu {t b:Int} (h:b≠0):(low t b).1.natAbs<=t.natAbs:=nM (nC t b) (vI h)
theorem Mv {t b:Int} (h:b≠0):(low t b).2.natAbs<=b.natAbs:=nM (lO t b) (vI h)
theorem tR {p q p' q':Int} (hq:0<q) (hq':0<q') (g:Int.gcd p q=1) (g':Int.gcd p' q'=1) (e:p*q'=p'*q):p=p'∧q=q':=by
 have d1:q ∣ q':=by
  have h:q ∣ p*q':=⟨p',by rw [e,Int.mul_comm]⟩
  have h2:=Int.dvd_gcd_mul_iff_dvd_mul.mpr h
  rw [Int.gcd_comm,g] at h2
  simpa using h2
 have d2:q' ∣ q:=by
  have h:q' ∣ p'*q:=⟨p,by rw [← e,Int.mul_comm]⟩
  have h2:=Int.dvd_gcd_mul_iff_dvd_mul.mpr h
  rw [Int.gcd_comm,g'] at h2
  simpa using h2
 have l1:=Int.le_of_dvd hq' d1
 have l2:=Int.le_of_dvd hq d2
 have eq:q=q':=by omega
 refine ⟨?_,eq⟩
 rw [eq] at e
 exact Int.eq_of_mul_eq_mul_right (by omega) e
theorem Ra {t b:Int} (hb:0<b) (g:Int.gcd t b=1):low t b=(t,b):=by
 have es:sg t b=1:=by unfold sg;rw [if_neg (by omega),g];rfl
 unfold low;rw [es];simp
theorem Fo {t b s d:Int} (hb:b≠0) (hd:d≠0) (e:t*d=s*b):low t b=low s d:=by
 have h1:=nC t b
 have h2:=lO t b
 have h3:=nC s d
 have h4:=lO s d
 have k:sg t b*sg s d≠0:=Int.mul_ne_zero (vI hb) (vI hd)
 have e':(low t b).1*(low s d).2=(low s d).1*(low t b).2:=by
  refine Int.eq_of_mul_eq_mul_left k ?_
  have l:sg t b*sg s d*((low t b).1*(low s d).2)=t*d:=by
   conv=>rhs;rw [h1,h4]
   simp only [Int.mul_assoc,Int.mul_left_comm,Int.mul_comm]
  have r:sg t b*sg s d*((low s d).1*(low t b).2)=s*b:=by
   conv=>rhs;rw [h3,h2]
   simp only [Int.mul_assoc,Int.mul_left_comm,Int.mul_comm]
  rw [l,r,e]
 have w:=tR (rC hb) (rC hd) (wH hb) (wH hd) e'
 exact Prod.ext w.1 w.2
theorem back {a b c d:Int} (hb:0<b) (hd:0<d) (g:Int.gcd a b=1) :
  low ((low (a*d - c*b) (b*d)).1*d+c*(low (a*d - c*b) (b*d)).2) ((low (a*d - c*b) (b*d)).2*d)=(a,b):=by
 have hbd:b*d≠0:=Int.mul_ne_zero (by omega) (by omega)
 have e1:=nC (a*d - c*b) (b*d)
 have e2:=lO (a*d - c*b) (b*d)
 have hp:=rC (t:=a*d - c*b) hbd
 have hk:=vI (t:=a*d - c*b) hbd
 generalize low (a*d - c*b) (b*d)=z at *
 generalize sg (a*d - c*b) (b*d)=k at *
 obtain ⟨p,q⟩:=z
 dsimp only at *
 have hqd:q*d≠0:=Int.mul_ne_zero (by omega) (by omega)
 rw [Fo hqd (show b≠0 by omega) (s:=a) ?_,Ra hb g]
 refine Int.eq_of_mul_eq_mul_left hk ?_
 have x1:k*((p*d+c*q)*b)=(k*p)*d*b+c*b*(k*q):=by
  rw [Int.add_mul,Int.mul_add]
  congr 1 <;> simp only [Int.mul_assoc,Int.mul_left_comm,Int.mul_comm]
 have x2:k*(a*(q*d))=a*d*(k*q):=by simp only [Int.mul_assoc,Int.mul_left_comm,Int.mul_comm]
 rw [x1,x2,← e1,← e2]
 have y1:(a*d - c*b)*d*b=a*d*(b*d) - c*b*(b*d):=by
  rw [Int.mul_assoc,Int.mul_comm d b,Int.sub_mul]
 rw [y1];omega
end Z
namespace Z
noncomputable def Bd (n:Nat) (i:Int):Prop:=i.natAbs<2 ^ n
theorem Bd.mono {m n:Nat} {i:Int} (h:Bd m i) (hmn:m<=n):Bd n i:=Nat.lt_of_lt_of_le h (Nat.pow_le_pow_right (by decide) hmn)
theorem Bd.mul {m n:Nat} {a b:Int} (h:Bd m a) (k:Bd n b):Bd (m+n) (a*b):=by
 unfold Bd at *
 rw [Int.natAbs_mul,Nat.pow_add]
 exact Nat.mul_lt_mul'' h k
theorem Bd.sub {m:Nat} {a b:Int} (h:Bd m a) (k:Bd m b):Bd (m+1) (a - b):=by
 unfold Bd at *
 rw [Nat.pow_succ]
 omega
theorem Bd.le {m:Nat} {a b:Int} (h:Bd m a) (k:b.natAbs<=a.natAbs):Bd m b:=Nat.lt_of_le_of_lt k h
theorem Ms {m:Nat} {t b:Int} (h:Bd m t) (hb:b≠0):Bd m (low t b).1:=h.le (Mu hb)
theorem Mt {m:Nat} {t b:Int} (h:Bd m b) (hb:b≠0):Bd m (low t b).2:=h.le (Mv hb)
end Z
namespace Z
theorem Mw {t b:Int} (h:b≠0):(low t b).1=(Rat.divInt t b).num∧(low t b).2=((Rat.divInt t b).den:Int):=by
 have hp:=rC (t:=t) h
 have hg:=wH (t:=t) h
 have hd:(Rat.divInt t b).den≠0:=(Rat.divInt t b).den_nz
 refine tR hp (by omega) hg ?_ ?_
 ·have:=(Rat.divInt t b).reduced
  rw [Int.gcd_eq_natAbs_gcd_natAbs];simpa using this
 ·have e:Rat.divInt (low t b).1 (low t b).2=Rat.divInt (Rat.divInt t b).num ((Rat.divInt t b).den:Int):=by
   have e1:Rat.divInt (Rat.divInt t b).num ((Rat.divInt t b).den:Int)=Rat.divInt t b:=by rw [Rat.divInt_ofNat,Rat.mkRat_self]
   rw [e1]
   refine (Rat.divInt_eq_divInt_iff (by omega) h).mpr ?_
   have h1:=nC t b
   have h2:=lO t b
   have k:=vI (t:=t) h
   refine Int.eq_of_mul_eq_mul_left k ?_
   rw [← Int.mul_assoc,← Int.mul_assoc,← h1]
   conv=>rhs;rw [Int.mul_comm (sg t b) t,Int.mul_assoc,← h2]
  exact (Rat.divInt_eq_divInt_iff (by omega) (by omega)).mp e
theorem oh (q:Rat):Rat.divInt q.num (q.den:Int)=q:=by rw [Rat.divInt_ofNat,Rat.mkRat_self]
theorem rW (q:Rat):(q.den:Int)≠0:=by have:=q.den_nz;omega
theorem NB (p q:Rat):Rat.divInt (p.num*q.den - q.num*p.den) (p.den*q.den)=p - q:=by
 rw [← Rat.divInt_sub_divInt _ _ (rW p) (rW q),oh,oh]
theorem Nz (p q:Rat):Rat.divInt (p.num*q.num) (p.den*q.den)=p*q:=by
 rw [← Rat.divInt_mul_divInt,oh,oh]
theorem Ny (p q:Rat):Rat.divInt (p.num*q.den) (p.den*q.num)=p / q:=by
 rw [Rat.div_def,← Rat.divInt_mul_divInt,oh,← Rat.inv_divInt,oh]
theorem Rv {q:Rat} (h:q≠0):q.num≠0:=fun z=>h (by
 have:=oh q
 rw [z] at this
 rw [← this];simp)
noncomputable def Bq (n:Nat) (q:Rat):Prop:=Bd n q.num∧Bd n (q.den:Int)
theorem Bq.mono {m n:Nat} {q:Rat} (h:Bq m q) (k:m<=n):Bq n q:=⟨h.1.mono k,h.2.mono k⟩
theorem GC {m:Nat} {t b:Int} (hb:b≠0) (h1:Bd m t) (h2:Bd m b):Bq m (Rat.divInt t b):=by
 obtain ⟨e1,e2⟩:=Mw (t:=t) hb
 exact ⟨by rw [← e1];exact Ms h1 hb,by rw [← e2];exact Mt h2 hb⟩
theorem Dc (p q:Rat):(p.den:Int)*(q.den:Int)≠0:=Int.mul_ne_zero (rW p) (rW q)
theorem Qk {m n:Nat} {p q:Rat} (h:Bq m p) (k:Bq n q):Bq (m+n+1) (p - q):=by
 rw [← NB]
 refine GC (Dc p q) (Bd.sub (h.1.mul k.2) ?_) ((h.2.mul k.2).mono (Nat.le_succ _))
 rw [Nat.add_comm m n];exact k.1.mul h.2
theorem Qj {m n:Nat} {p q:Rat} (h:Bq m p) (k:Bq n q):Bq (m+n) (p*q):=by
 rw [← Nz]
 exact GC (Dc p q) (h.1.mul k.1) (h.2.mul k.2)
theorem Qi {m n:Nat} {p q:Rat} (h:Bq m p) (k:Bq n q) (hq:q≠0):Bq (m+n) (p / q):=by
 rw [← Ny]
 exact GC (Int.mul_ne_zero (rW p) (Rv hq)) (h.1.mul k.2) (h.2.mul k.1)
end Z
open PySem L2 in
local macro_rules
 | `(tactic| dsimp? only)=>`(tactic| dsimp? only [true_and])
 | `(tactic| dsimp? only [$ts,*])=>do
  let f (s:String):=((s.splitOn " ").map fun n=>Lean.mkIdent n.toName).toArray
  let a ← (f "ev_C ev_Var ev_ops_nil ev_ops_val ev_ops_nam ev_Do ev_Tup ev_Lst ev_B ev_And ev_Or ev_Not ev_AndV ev_OrV ev_NotV ev_IfE ev_Tru ev_Call ev_CallM ev_IxN ev_Mut ev_Chain ev_Seq ev_Next ev_Never ev_Break ev_Cont ev_If ev_Expr ev_Ret ev_RetN ev_RetV ev_Set ev_Asg ev_gN ev_gT ev_gGo_nil ev_gGo_cons ev_Par ev_Aug ev_SetIx ev_For ev_Comp ev_Keep ev_Drop ev_Yes ev_Range1 ev_Range2 ev_Seq' ev_Zip ev_Enum ev_fn nx_mk rt_mk bk_mk ct_mk sSlFrom sSlTo bindO_eq andP_eq iteP_eq callF_eq forL_eq compL_eq sWhile_eq").mapM fun n=>`(Lean.Parser.Tactic.simpLemma| ↓ $n:ident)
  let b ← (f "dropL_nil dropL_cons bindL_some bindL_none andL_true andL_false iteL_true iteL_false slot_cons0 slot_consS getAD_nam getAD_val getAll_nil getAll_cons' consO_some oneO twoO D.intO D.bo D.ownO D.isLst D.tupO D.seqO D.lstO ioOf_f ioOf_t namsSh namsSh_val namsSh_nam namsOf aft_ev shAll_nil shAll_cons cond_true cond_false clO putO_none putO_some ixF_l0 ixF_l1 ixF_t0 ixF_t1 cSt wb D.fz D.fzs D.sh D.shs D.clean D.cleans D.tru D.isNon dAdd_int dAdd_lst dAdd_tup dSub_int dMul_int dFdiv_int dMod_int dNeg_int dLt_int dLe_int dGt_int dGe_int dEq_int dNe_int dLen_lst dLen_tup dLen_scr dAbs_int dMin_int dMax_int dInt_int dInt_bl dIsN_ dNotN_ dListOf_lst dListOf_tup dTupOf_lst ixN0 ixN1 ne_eq Int.reduceEq List.map_cons List.map_nil List.replicate_succ List.replicate_zero List.replicate List.cons_append List.nil_append List.append_nil List.length_cons List.length_nil List.getElem?_cons_zero List.getElem?_cons_succ List.getElem?_nil Option.getD_some Option.getD_none List.set_cons_zero List.set_cons_succ List.set_nil List.drop_succ_cons List.drop_zero List.drop_nil Nat.reduceAdd Nat.reduceSub Nat.reduceLT Nat.reduceLeDiff Nat.reduceEqDiff Int.reduceToNat Nat.zero_add and_true true_and and_self if_true if_false reduceIte Bool.and_true Bool.true_and Bool.and_false Bool.false_and Bool.or_true Bool.true_or Bool.or_false Bool.false_or Bool.not_true Bool.not_false Bool.and_self decide_true decide_false Bool.false_eq_true reduceCtorEq List.mem_cons List.not_mem_nil or_false not_false_eq_true Option.bind_some Option.map_some Option.map_none Option.bind_none sizeLine_eq").mapM fun n=>`(Lean.Parser.Tactic.simpLemma| $n:ident)
  `(tactic| simp only [$ts,*,$(a++b),*])
namespace Z
open PySem L2
noncomputable def fr (q:Rat):D:=.tup [.int q.num,.int (q.den:Int)]
theorem cb {m n:Nat} {i j:Int} (h:Bd m i) (k:Bd n j) (l:m+n<=134217728):my i j=true:=by
 unfold my
 have h1:bits i<=m:=intBits_le_iff.mpr h
 have h2:bits j<=n:=intBits_le_iff.mpr k
 exact decide_eq_true (by omega)
theorem Uo (q:Rat):(fr q).fz=fr q:=rfl
theorem jA {α : Type} (g : α -> D) (hg:∀ x,(g x).fz=g x):∀ xs:List α,D.fzs (xs.map g)=xs.map g
 | []=>by simp [D.fzs]
 | x :: xs=>by rw [List.map_cons,D.fzs,hg,jA g hg xs]
theorem aP {α : Type} (g : α -> D) (hg:∀ x,(g x).sh=true):∀ xs:List α,D.shs (xs.map g)=true
 | []=>by simp [D.shs]
 | x :: xs=>by rw [List.map_cons,D.shs,hg,aP g hg xs];rfl
theorem gD {α : Type} (g : α -> D) (hg:∀ x,(g x).clean=true):∀ xs:List α,D.cleans (xs.map g)=true
 | []=>by simp [D.cleans]
 | x :: xs=>by rw [List.map_cons,D.cleans,hg,gD g hg xs];rfl
end Z
namespace TM
noncomputable def cV (f:Nat->Rat):Nat->Rat
 | 0=>0
 | n+1=>cV f n+f n
theorem dU {f g:Nat->Rat}:∀ n,(∀ i,i<n->f i=g i)->cV f n=cV g n
 | 0,_=>rfl
 | n+1,h=>by
  show cV f n+f n=cV g n+g n
  rw [dU n (fun i hi=>h i (by omega)),h n (by omega)]
theorem vK {f:Nat->Rat} (n:Nat) (h:∀ i,i<n->f i=0):cV f n=0:=by
 induction n with
 | zero=>rfl
 | succ n ih=>
  show cV f n+f n=0
  rw [ih fun i hi=>h i (by omega),h n (by omega)];grind
theorem mO (f g:Nat->Rat):∀ n,cV (fun i=>f i+g i) n=cV f n+cV g n
 | 0=>by show (0:Rat)=0+0;grind
 | n+1=>by
  show cV (fun i=>f i+g i) n+(f n+g n)=cV f n+f n+(cV g n+g n)
  rw [mO f g n];grind
theorem pK (c:Rat) (f:Nat->Rat):∀ n,cV (fun i=>c*f i) n=c*cV f n
 | 0=>by show (0:Rat)=c*0;grind
 | n+1=>by
  show cV (fun i=>c*f i) n+c*f n=c*(cV f n+f n)
  rw [pK c f n];grind
theorem Ec {f:Nat->Rat} {k:Nat}:∀ n,k<n->cV f n=f k+cV (fun i=>if i=k then 0 else f i) n
 | 0,h=>absurd h (Nat.not_lt_zero _)
 | n+1,h=>by
  show cV f n+f n=f k+(cV (fun i=>if i=k then 0 else f i) n+(if n=k then 0 else f n))
  by_cases e:n=k
  ·subst e
   have q:cV (fun i=>if i=n then 0 else f i) n=cV f n:=dU n fun i hi=>by rw [if_neg (Nat.ne_of_lt hi)]
   rw [if_pos rfl,q];grind
  ·rw [if_neg e,Ec (f:=f) (k:=k) n (by omega)];grind
theorem pL {f:Nat->Rat} {k n:Nat} (h:k<n) (z:∀ i,i<n->i≠k->f i=0):cV f n=f k:=by
 rw [Ec n h,vK n fun i hi=>by by_cases e:i=k <;> simp [e,z i hi]]
 grind
theorem vJ (f:Nat->Nat->Rat) (m:Nat):∀ n,cV (fun i=>cV (fun j=>f i j) m) n=cV (fun j=>cV (fun i=>f i j) n) m
 | 0=>(vK m fun _ _=>rfl).symm
 | n+1=>by
  show cV (fun i=>cV (fun j=>f i j) m) n+cV (fun j=>f n j) m=cV (fun j=>cV (fun i=>f i j) n+f n j) m
  rw [vJ f m n,mO]
noncomputable abbrev Mx:=Nat->Nat->Rat
noncomputable def Gives (n:Nat) (A:Mx) (s:Rat) (y:Nat->Rat):Prop:=∀ i,i<n->cV (fun j=>A i j*y j) n=s*A i n
noncomputable def Dep (n:Nat) (A:Mx):Prop:=∃ w:Nat->Rat,(∃ i,i<n∧w i≠0) ∧ ∀ j,j<n->cV (fun i=>w i*A i j) n=0
noncomputable def Unit (n at':Nat) (A:Mx):Prop:=∀ i j,i<n->j<at'->A i j=if i=j then 1 else 0
noncomputable def mv (a k i:Nat):Nat:=if i=a then k else if a<i∧i<=k then i - 1 else i
noncomputable def moved (a k:Nat) (A:Mx):Mx:=fun i=>A (mv a k i)
noncomputable def clear (a:Nat) (A:Mx):Mx:=fun i j=>if i=a then A a j / A a a else A i j - A i a*(A a j / A a a)
theorem Il {a k i n:Nat} (h:k<n) (hi:i<n):mv a k i<n:=by unfold mv;split <;> (try split) <;> omega
noncomputable def vm (a k i:Nat):Nat:=if i=k then a else if a<=i∧i<k then i+1 else i
theorem Im {a k:Nat} (h:a<=k) (i:Nat):mv a k (vm a k i)=i:=by
 unfold mv vm
 by_cases e:i=k
 ·simp [e]
 ·rw [if_neg e]
  by_cases f:a<=i∧i<k
  ·rw [if_pos f,if_neg (by omega),if_pos (by omega)];omega
  ·rw [if_neg f]
   by_cases g:i=a
   ·exfalso;omega
   ·rw [if_neg g,if_neg (by omega)]
theorem Wc {a k:Nat} (h:a<=k) (i:Nat):vm a k (mv a k i)=i:=by
 unfold mv vm
 by_cases e:i=a
 ·simp [e]
 ·rw [if_neg e]
  by_cases f:a<i∧i<=k
  ·rw [if_pos f,if_neg (by omega),if_pos (by omega)];omega
  ·rw [if_neg f]
   by_cases g:i=k
   ·exfalso;omega
   ·rw [if_neg g,if_neg (by omega)]
theorem Kf {a k i n:Nat} (h:a<=k) (hk:k<n) (hi:i<n):vm a k i<n:=by unfold vm;split <;> (try split) <;> omega
theorem yO {n a k:Nat} {A:Mx} {s:Rat} {y:Nat->Rat} (h:a<=k) (hk:k<n):Gives n (moved a k A) s y↔Gives n A s y:=by
 constructor
 ·intro g i hi
  have:=g (vm a k i) (Kf h hk hi)
  unfold moved at this
  rw [Im h] at this
  exact this
 ·intro g i hi
  exact g (mv a k i) (Il hk hi)
theorem yM {n a:Nat} {A:Mx} {s:Rat} {y:Nat->Rat} (ha:a<n) (p:A a a≠0):Gives n (clear a A) s y↔Gives n A s y:=by
 have lead:cV (fun j=>clear a A a j*y j) n=cV (fun j=>A a j*y j) n / A a a:=by
  have e:∀ j,j<n->clear a A a j*y j=(A a a)⁻¹ * (A a j*y j):=fun j _=>by unfold clear;rw [if_pos rfl];grind
  rw [dU n e,pK];grind
 have other:∀ i,i≠a->cV (fun j=>clear a A i j*y j) n=cV (fun j=>A i j*y j) n - A i a*(cV (fun j=>A a j*y j) n / A a a):=fun i hi=>by
  have e:∀ j,j<n->clear a A i j*y j=A i j*y j+(-(A i a) / A a a)*(A a j*y j):=fun j _=>by unfold clear;rw [if_neg hi];grind
  rw [dU n e,mO,pK];grind
 have ea:clear a A a n=A a n / A a a:=by unfold clear;rw [if_pos rfl]
 have eo:∀ i,i≠a->clear a A i n=A i n - A i a*(A a n / A a a):=fun i hi=>by unfold clear;rw [if_neg hi]
 constructor
 ·intro g
  have ga:=g a ha
  rw [lead,ea] at ga
  have ga':cV (fun j=>A a j*y j) n=s*A a n:=by grind
  intro i hi
  by_cases e:i=a
  ·rw [e];exact ga'
  ·have gi:=g i hi
   rw [other i e,eo i e,ga'] at gi
   grind
 ·intro g i hi
  by_cases e:i=a
  ·rw [e,lead,ea,g a ha];grind
  ·rw [other i e,eo i e,g i hi,g a ha];grind
theorem Gm {a k n:Nat} (h:a<=k) (hk:k<n) (f:Nat->Rat):cV (fun i=>f (mv a k i)) n=cV f n:=by
 have e:∀ i,i<n->f (mv a k i)=cV (fun m=>if m=mv a k i then f m else 0) n:=fun i hi=>by
  rw [pL (k:=mv a k i) (Il hk hi) fun m _ hm=>by rw [if_neg hm]];simp
 rw [dU n e,vJ]
 refine dU n fun m hm=>?_
 rw [pL (k:=vm a k m) (Kf h hk hm) fun i hi hne=>?_]
 ·rw [if_pos (Im h m).symm]
 ·rw [if_neg]
  intro z
  apply hne
  rw [z,Wc h]
theorem Et {n a k:Nat} {A:Mx} (h:a<=k) (hk:k<n) (d:Dep n A):Dep n (moved a k A):=by
 obtain ⟨w,⟨i,hi,hw⟩,g⟩:=d
 refine ⟨fun i=>w (mv a k i),⟨vm a k i,Kf h hk hi,by show w (mv a k (vm a k i))≠0;rw [Im h];exact hw⟩,fun j hj=>?_⟩
 show cV (fun i=>w (mv a k i)*A (mv a k i) j) n=0
 rw [Gm h hk fun i=>w i*A i j];exact g j hj
theorem Er {n a:Nat} {A:Mx} (ha:a<n) (p:A a a≠0) (d:Dep n A):Dep n (clear a A):=by
 obtain ⟨w,⟨i,hi,hw⟩,g⟩:=d
 refine ⟨fun i=>if i=a then cV (fun m=>w m*A m a) n else w i,?_,fun j hj=>?_⟩
 ·by_cases e:∃ m,m<n∧m≠a∧w m≠0
  ·obtain ⟨m,hm,hne,hwm⟩:=e
   exact ⟨m,hm,by show (if m=a then cV (fun m=>w m*A m a) n else w m)≠0;rw [if_neg hne];exact hwm⟩
  ·have z:∀ m,m<n->m≠a->w m=0:=fun m hm hne=>by
    by_cases q:w m=0
    ·exact q
    ·exact absurd ⟨m,hm,hne,q⟩ e
   have hia:i=a:=by
    by_cases q:i=a
    ·exact q
    ·exact absurd (z i hi q) hw
   refine ⟨a,ha,?_⟩
   show (if a=a then cV (fun m=>w m*A m a) n else w a)≠0
   rw [if_pos rfl,pL (k:=a) ha fun m hm hne=>by rw [z m hm hne];grind]
   rw [hia] at hw
   grind
 ·have e:∀ m,m<n->(if m=a then cV (fun m=>w m*A m a) n else w m)*clear a A m j =
    (w m*A m j + -(A a j / A a a)*(w m*A m a))+(if m=a then cV (fun m=>w m*A m a) n*(A a j / A a a) else 0):=fun m hm=>by
   unfold clear
   by_cases q:m=a
   ·simp only [if_pos q];subst q;grind
   ·simp only [if_neg q];grind
  have one:cV (fun m=>if m=a then cV (fun m=>w m*A m a) n*(A a j / A a a) else 0) n=cV (fun m=>w m*A m a) n*(A a j / A a a):=by
   rw [pL (f:=fun m=>if m=a then cV (fun m=>w m*A m a) n*(A a j / A a a) else 0) (k:=a) ha fun m hm hne=>by rw [if_neg hne]]
   simp
  rw [dU n e,mO,mO,pK,g j hj,one]
  grind
theorem Gp {n a k:Nat} {A:Mx} (u:Unit n a A) (h:a<=k) (hk:k<n) (p:A k a≠0):Unit n (a+1) (clear a (moved a k A)):=by
 intro i j hi hj
 have pa:moved a k A a a=A k a:=by unfold moved mv;rw [if_pos rfl]
 have rowa:∀ j,j<a->moved a k A a j=0:=fun j hj=>by
  unfold moved mv;rw [if_pos rfl,u k j hk hj,if_neg (by omega)]
 unfold clear
 by_cases e:j=a
 ·subst e
  by_cases q:i=j
  ·rw [if_pos q,if_pos q,pa];grind
  ·rw [if_neg q,if_neg q,pa];grind
 ·have hj':j<a:=by omega
  by_cases q:i=a
  ·rw [if_pos q,rowa j hj',if_neg (by omega)];grind
  ·rw [if_neg q,rowa j hj']
   have:moved a k A i j=if i=j then 1 else 0:=by
    unfold moved
    rw [u _ j (Il hk hi) hj']
    unfold mv
    rw [if_neg q]
    by_cases z:a<i∧i<=k
    ·rw [if_pos z,if_neg (by omega),if_neg (by omega)]
    ·rw [if_neg z]
   rw [this];grind
end TM
namespace Z
open PySem L2
theorem bK {α : Type} (gI f : α -> D) {g:dY} {el:aZ} (S:En->Prop):∀ {xs:List α} {ρ : En} {Q:List D->En->Prop},S ρ ->
  (∀ x∈xs,∀ ρ,S ρ -> ∀ P:D->En->Prop,(∀ ρ',S ρ'->P (f x) ρ')->g (gI x) ρ fun ρ1=>el ρ1 P)->(∀ ρ',S ρ'->Q (xs.map f) ρ')->iK g cI el (xs.map gI) ρ Q
 | [],ρ,Q,h0,_,hQ=>hQ ρ h0
 | x :: xs,ρ,Q,h0,hs,hQ=>by
  show g (gI x) ρ fun ρ1=>el ρ1 fun y ρ3=>iK g cI el (xs.map gI) ρ3 fun ys ρ4=>Q (y :: ys) ρ4
  refine hs x List.mem_cons_self ρ h0 _ fun ρ' h'=>?_
  exact bK gI f S h' (fun d' hd'=>hs d' (List.mem_cons_of_mem _ hd')) fun ρ2 h2=>hQ ρ2 h2
theorem jj {g:dY} {b:bW} {E:EndD}:∀ {ds:List D} {ρ : En} (I:Nat->En->Prop) (n:Nat),I n ρ ->
  (∀ k d ρ,ds[k]? = some d->I (n+k) ρ -> ∀ P:En->Prop,(∀ ρ',I (n+k+1) ρ'->P ρ')->g d ρ fun ρ1=>b ρ1 ⟨P,E.rt,E.nx,P⟩)->(∀ ρ',I (n+ds.length) ρ'->E.nx ρ')->forL g b ds ρ E
 | [],ρ,I,n,h0,_,hE=>hE ρ h0
 | d :: ds,ρ,I,n,h0,hs,hE=>by
  show g d ρ fun ρ1=>b ρ1 ⟨fun ρ2=>forL g b ds ρ2 E,E.rt,E.nx,fun ρ2=>forL g b ds ρ2 E⟩
  refine hs 0 d ρ rfl h0 _ fun ρ' h'=>?_
  refine jj I (n+1) h' (fun k d' ρ2 e h2 P hP=>?_) fun ρ2 h2=>hE ρ2 (by rw [List.length_cons,Nat.add_comm ds.length 1,← Nat.add_assoc];exact h2)
  have e2:n+1+k=n+(k+1):=by omega
  rw [e2] at h2
  exact hs (k+1) d' ρ2 (by simpa using e) h2 P fun ρ' h3=>hP ρ' (by rw [e2];exact h3)
theorem mF {lo:Int} {n k:Nat} {d:D} (h:(ou lo n)[k]? = some d):k<n∧d = .int (lo+k):=by
 simp only [ou,List.getElem?_map] at h
 obtain ⟨j,e1,rfl⟩:=Option.map_eq_some_iff.mp h
 obtain ⟨h1,h2⟩:=List.getElem?_eq_some_iff.mp e1
 simp only [List.getElem_range] at h2
 subst h2
 exact ⟨by simpa using h1,rfl⟩
theorem tK (lo:Int) (n:Nat):(ou lo n).length=n:=by simp [ou]
theorem Cu (r:List Rat):D.fzs (r.map fr)=r.map fr:=jA fr Uo r
noncomputable def TX (d:D) (r:List Rat):Prop:=∃ o,d = .lst o (r.map fr)
inductive IsRows:List D->List (List Rat)->Prop where
 | nil:IsRows [] []
 | cons {d:D} {ds:List D} {r:List Rat} {rs:List (List Rat)}:TX d r->IsRows ds rs->IsRows (d :: ds) (r :: rs)
noncomputable def Vk (r:List Rat):D:=.lst false (r.map fr)
noncomputable def ent (rs:List (List Rat)) (i j:Nat):Rat:=(rs.getD i []).getD j 0
theorem yg {α : Type} (g : α -> D) {xs:List α} {k:Nat} {x : α} (h:xs[k]? = some x):atI (xs.map g) (k:Int)=some (g x):=by
 apply mU
 rw [List.getElem?_map,h];rfl
theorem Hd {rs:List (List Rat)} {i j:Nat} {r:List Rat} {q:Rat} (h1:rs[i]? = some r) (h2:r[j]? = some q):ent rs i j=q:=by
 unfold ent
 rw [List.getD_eq_getElem?_getD,List.getD_eq_getElem?_getD,h1,Option.getD_some,h2,Option.getD_some]
noncomputable def vy (r l:List Rat) (c:Rat):List Rat:=(r.zip l).map fun p=>p.1 - c*p.2
theorem mV {α : Type} (gI : α -> D) (R : α -> D->Prop) {g:dY} {el:aZ} (S:En->Prop):∀ {xs:List α} {ρ : En} {Q:List D->En->Prop},S ρ ->
  (∀ x∈xs,∀ ρ,S ρ -> ∀ P:D->En->Prop,(∀ d ρ',R x d->S ρ'->P d ρ')->g (gI x) ρ fun ρ1=>el ρ1 P) ->
  (∀ ds ρ',ds.length=xs.length->(∀ (i:Nat) x d,xs[i]? = some x->ds[i]? = some d->R x d)->S ρ'->Q ds ρ')->iK g cI el (xs.map gI) ρ Q
 | [],ρ,Q,h0,_,hQ=>hQ [] ρ rfl (fun i x d e=>by simp at e) h0
 | x :: xs,ρ,Q,h0,hs,hQ=>by
  show g (gI x) ρ fun ρ1=>el ρ1 fun y ρ3=>iK g cI el (xs.map gI) ρ3 fun ys ρ4=>Q (y :: ys) ρ4
  refine hs x List.mem_cons_self ρ h0 _ fun d ρ' hd h'=>?_
  refine mV gI R S h' (fun d' hd'=>hs d' (List.mem_cons_of_mem _ hd')) fun ds ρ2 hl hr h2=>hQ (d :: ds) ρ2 (by simp [hl]) (fun i y e h3 h4=>?_) h2
  cases i with
  | zero=>simp at h3 h4;subst h3;subst h4;exact hd
  | succ i=>exact hr i y e (by simpa using h3) (by simpa using h4)
noncomputable def qU (ds:List D) (rs:List (List Rat)):Prop:=ds.length=rs.length ∧ ∀ (i:Nat) (r:List Rat),rs[i]? = some r -> ∃ o,ds[i]? = some (.lst o (r.map fr))
noncomputable def pU (rs:List (List Rat)) (a:Nat) (l:List Rat) (i:Nat) (r:List Rat):List Rat:=if i=a then l else vy r l (r.getD a 0)
end Z
namespace Z
open PySem L2 TM
noncomputable def mvR {α : Type} (rs:List α) (a k:Nat) (r : α):List α:=(rs.eraseIdx k).take a++r :: (rs.eraseIdx k).drop a
theorem MF {α : Type} {rs:List α} {a k:Nat} {r : α} (hk:k<rs.length):(mvR rs a k r).length=rs.length:=by
 unfold mvR
 rw [List.length_append,List.length_cons,List.length_take,List.length_drop,List.length_eraseIdx]
 rw [if_pos hk]
 omega
theorem Dd {α : Type} {rs:List α} {a k i:Nat} {r : α} (ha:a<=k) (hr:rs[k]? = some r):(mvR rs a k r)[i]? = rs[mv a k i]?:=by
 have hk:=(List.getElem?_eq_some_iff.mp hr).1
 have hl:((rs.eraseIdx k).take a).length=a:=by rw [List.length_take,List.length_eraseIdx,if_pos hk];omega
 unfold mvR mv
 by_cases e:i=a
 ·subst e
  rw [if_pos rfl,List.getElem?_append_right (by omega),hl,Nat.sub_self,List.getElem?_cons_zero,hr]
 ·rw [if_neg e]
  by_cases f:i<a
  ·rw [List.getElem?_append_left (by omega),List.getElem?_take_of_lt f,List.getElem?_eraseIdx_of_lt (by omega),if_neg (by omega)]
  ·rw [List.getElem?_append_right (by omega),hl]
   obtain ⟨j,hj⟩:∃ j,i - a=j+1:=⟨i - a - 1,by omega⟩
   rw [hj,List.getElem?_cons_succ,List.getElem?_drop]
   have e2:a+j=i - 1:=by omega
   rw [e2]
   by_cases g:i<=k
   ·rw [if_pos (by omega),List.getElem?_eraseIdx_of_lt (by omega)]
   ·rw [if_neg (by omega),List.getElem?_eraseIdx_of_ge (by omega)]
    congr 1
    omega
theorem oW {rs:List (List Rat)} {i j:Nat}:ent rs i j=((rs[i]?).getD []).getD j 0:=by
 unfold ent
 have:rs.getD i []=(rs[i]?).getD []:=List.getD_eq_getElem?_getD
 rw [this]
theorem Hf {rs:List (List Rat)} {a k:Nat} {r:List Rat} (ha:a<=k) (hr:rs[k]? = some r):ent (mvR rs a k r)=moved a k (ent rs):=by
 funext i j
 unfold moved
 rw [oW,oW,Dd ha hr]
noncomputable def sz (m:Nat):Nat->Nat
 | 0=>m
 | k+1=>4*sz m k+1
noncomputable def jx (rs:List (List Rat)) (a:Nat) (ra:List Rat) (q:Rat):List (List Rat):=(rs.zipIdx).map fun p=>pU rs a (ra.map (· / q)) p.2 p.1
theorem yo {rs:List (List Rat)} {a i:Nat} {ra r:List Rat} {q:Rat} (h:rs[i]? = some r):(jx rs a ra q)[i]? = some (pU rs a (ra.map (· / q)) i r):=by
 unfold jx
 rw [List.getElem?_map,List.getElem?_zipIdx,h];simp
theorem yp {rs:List (List Rat)} {a:Nat} {ra:List Rat} {q:Rat}:(jx rs a ra q).length=rs.length:=by simp [jx]
theorem vg {l:List Rat} {g:Rat->Rat} {j:Nat} (h:j<l.length):(l.map g).getD j 0=g (l.getD j 0):=by
 rw [List.getD_eq_getElem?_getD,List.getD_eq_getElem?_getD,List.getElem?_map,List.getElem?_eq_getElem h];rfl
theorem Fg {r l:List Rat} {c:Rat} {j:Nat} (h1:j<r.length) (h2:j<l.length):(vy r l c).getD j 0=r.getD j 0 - c*l.getD j 0:=by
 unfold vy
 have e1:=List.getElem?_eq_getElem h1
 have e2:=List.getElem?_eq_getElem h2
 have e3:(r.zip l)[j]? = some (r[j],l[j]):=List.getElem?_zip_eq_some.mpr ⟨e1,e2⟩
 rw [List.getD_eq_getElem?_getD,List.getD_eq_getElem?_getD,List.getD_eq_getElem?_getD,List.getElem?_map,e3,e1,e2]
 rfl
theorem Fi {r l:List Rat} {c:Rat} (h:r.length=l.length):(vy r l c).length=r.length:=by simp [vy,h]
theorem Ex {rs:List (List Rat)} {a w:Nat} {ra:List Rat} {q:Rat} (hw:∀ r∈rs,r.length=w) (ha:rs[a]? = some ra) (hq:ra[a]? = some q) {i j:Nat} (hi:i<rs.length) (hj:j<w) :
  ent (jx rs a ra q) i j=clear a (ent rs) i j:=by
 have hr:=List.getElem?_eq_getElem hi
 have hm:=List.getElem_mem hi
 generalize rs[i]=r at hr hm
 have lr:=hw r hm
 have la:=hw ra (List.mem_of_getElem? ha)
 have eaa:ent rs a a=q:=Hd ha hq
 rw [oW,yo hr,Option.getD_some]
 unfold clear pU
 have haw:a<w:=by rw [← la];exact (List.getElem?_eq_some_iff.mp hq).1
 have era:∀ j,ent rs a j=ra.getD j 0:=fun j=>by rw [oW,ha,Option.getD_some]
 have er:∀ j,ent rs i j=r.getD j 0:=fun j=>by rw [oW,hr,Option.getD_some]
 by_cases e:i=a
 ·rw [if_pos e,if_pos e,vg (by omega),eaa,era]
 ·rw [if_neg e,if_neg e,Fg (by omega) (by rw [List.length_map];omega),vg (by omega),eaa,era,er,er]
theorem De {α : Type} {rs:List α} {a k:Nat} {r x : α} (hr:r∈rs) (h:x∈mvR rs a k r):x∈rs:=by
 unfold mvR at h
 rcases List.mem_append.mp h with h | h
 ·exact List.mem_of_mem_eraseIdx (List.mem_of_mem_take h)
 ·rcases List.mem_cons.mp h with h | h
  ·rw [h];exact hr
  ·exact List.mem_of_mem_eraseIdx (List.mem_of_mem_drop h)
theorem qH {m w a:Nat} {rs:List (List Rat)} {ra:List Rat} {q:Rat} (hw:∀ r∈rs,r.length=w) (hb:∀ r∈rs,∀ x∈r,Bq m x) (ha:rs[a]? = some ra) (hq:ra[a]? = some q) (h0:q≠0) {r:List Rat} (h:r∈jx rs a ra q):r.length=w ∧ ∀ x∈r,Bq (4*m+1) x:=by
 unfold jx at h
 obtain ⟨⟨r',i⟩,hp,rfl⟩:=List.mem_map.mp h
 have hr:r'∈rs:=(List.mem_zipIdx' hp).2 ▸ List.getElem_mem _
 have hra:ra∈rs:=List.mem_of_getElem? ha
 have hqm:q∈ra:=List.mem_of_getElem? hq
 have hd:∀ x∈ra.map (· / q),Bq (m+m) x:=fun x hx=>by
  obtain ⟨z,hz,rfl⟩:=List.mem_map.mp hx
  exact Qi (hb ra hra z hz) (hb ra hra q hqm) h0
 show (pU rs a (ra.map (· / q)) i r').length=w ∧ ∀ x∈pU rs a (ra.map (· / q)) i r',_
 unfold pU
 by_cases e:i=a
 ·rw [if_pos e]
  exact ⟨by rw [List.length_map];exact hw ra hra,fun x hx=>(hd x hx).mono (by omega)⟩
 ·rw [if_neg e]
  have lr:=hw r' hr
  have la:=hw ra hra
  refine ⟨by rw [Fi (by rw [List.length_map,lr,la])];exact lr,fun x hx=>?_⟩
  unfold vy at hx
  obtain ⟨⟨u,v⟩,hp2,rfl⟩:=List.mem_map.mp hx
  have hu:=hb r' hr u (List.of_mem_zip hp2).1
  have hv:=hd v (List.of_mem_zip hp2).2
  have haw:a<r'.length:=by rw [lr,← la];exact (List.getElem?_eq_some_iff.mp hq).1
  have hc:Bq m (r'.getD a 0):=by
   rw [List.getD_eq_getElem?_getD,List.getElem?_eq_getElem haw]
   exact hb r' hr _ (List.getElem_mem haw)
  exact (Qk hu (Qj hc hv)).mono (by omega)
theorem yN {n:Nat} {A B:Mx} {s:Rat} {y:Nat->Rat} (h:∀ i j,i<n->j<n+1->A i j=B i j):Gives n A s y↔Gives n B s y:=by
 unfold TM.Gives
 constructor
 ·intro g i hi
  rw [← h i n hi (by omega),← g i hi]
  exact dU n fun j hj=>by rw [h i j hi (by omega)]
 ·intro g i hi
  rw [h i n hi (by omega),← g i hi]
  exact dU n fun j hj=>by rw [h i j hi (by omega)]
theorem Es {n:Nat} {A B:Mx} (h:∀ i j,i<n->j<n+1->A i j=B i j) (d:Dep n A):Dep n B:=by
 obtain ⟨w,h1,h2⟩:=d
 exact ⟨w,h1,fun j hj=>by rw [← h2 j hj];exact dU n fun i hi=>by rw [h i j hi (by omega)]⟩
theorem BX {n k:Nat} {A B:Mx} (hk:k<=n) (h:∀ i j,i<n->j<n+1->A i j=B i j) (u:Unit n k A):Unit n k B:=fun i j hi hj=>by rw [← h i j hi (by omega)];exact u i j hi hj
structure Inv (n m k:Nat) (A:Mx) (rs:List (List Rat)):Prop where
 len:rs.length=n
 w:∀ r∈rs,r.length=n+1
 b:∀ r∈rs,∀ x∈r,Bq (sz m k) x
 u:Unit n k (ent rs)
 g:∀ s y,Gives n (ent rs) s y↔Gives n A s y
 d:Dep n A->Dep n (ent rs)
noncomputable def Bag (d:D):Prop:=∃ a b:Int,d = .lst true [.int a,.int b]∧0<=b∧b<2147483647
theorem qN {n:Nat} {i:Int} {m:Nat} (h:i.natAbs<m) (e:m<=2 ^ n):Bd n i:=Nat.lt_of_lt_of_le h e
theorem vY {i j:Int} (h1:0<=j) (h2:j<=1000000) (h3:i.natAbs<2 ^ 64):vX [.int i,.int j]=some (.int (i ^ j.toNat)):=by
 show (if _ then _ else _)=_
 rw [if_pos (by simp only [Bool.and_eq_true,decide_eq_true_eq];exact ⟨⟨h1,h2⟩,h3⟩)]
theorem UL:vX [.int 10,.int 18]=some (.int ((10:Int) ^ (18:Int).toNat)):=vY (by decide) (by decide) (by decide)
theorem jK {x m:Int} (h:0<m):0<=x.fmod m∧x.fmod m<m:=⟨Int.fmod_nonneg_of_pos x h,Int.fmod_lt_of_pos x h⟩
theorem HD (a:Int) (xs:List D) (o:Bool):ixF (.lst o (.int a :: xs)) 0=some (.int a,none):=ixF_l0 _ _ _ rfl
theorem HF (a:Int) (x:D) (xs:List D) (o:Bool):ixF (.lst o (x :: .int a :: xs)) 1=some (.int a,none):=ixF_l1 _ _ _ _ rfl
theorem yX {bag:D} {many:Nat} (hB:Bag bag) (hm:0<many) {Q:D->Option D->Prop} (h:∀ (bag':D) (r:Nat),Bag bag'->r<many->Q (.int r) (some bag')):ao [bag,.int many] Q:=by
 obtain ⟨a,b,rfl,hb1,hb2⟩:=hB
 have hm0:(many:Int)≠0:=by omega
 have hr:∀ x:Int,∃ r:Nat,x.fmod many=(r:Int)∧r<many:=fun x=>by
  obtain ⟨h1,h2⟩:=jK (x:=x) (m:=(many:Int)) (by omega)
  exact ⟨(x.fmod many).toNat,by omega,by omega⟩
 dsimp? only [ao,HD,HF]
 refine oZ (fun hc=>?_) fun hc=>?_
 ·obtain ⟨r,e,hr⟩:=hr a
  dsimp? only [HD,HF,hm0,e]
  exact h _ r ⟨_,_,rfl,hb1,hb2⟩ hr
 ·have c1:my b 48271=true:=cb (m:=31) (n:=16) (qN (m:=2147483647) (by omega) (by decide)) (qN (m:=48272) (by decide) (by decide)) (by decide)
  obtain ⟨h1,h2⟩:=jK (x:=b*48271+7919) (m:=2147483647) (by decide)
  dsimp? only [HD,HF,c1,Int.reduceEq]
  generalize (b*48271+7919).fmod 2147483647=b' at h1 h2
  rw [vY (by decide) (by decide) (by omega)]
  obtain ⟨h3,h4⟩:=jK (x:=b' ^ 3) (m:=2147483587) (by decide)
  dsimp? only [HD,HF,Int.reduceEq]
  generalize (b' ^ 3).fmod 2147483587=z at h3 h4
  have c2:my (z.fdiv 7) 69621=true:=by
   refine cb (m:=31) (n:=17) (qN (m:=2147483647) ?_ (by decide)) (qN (m:=69622) (by decide) (by decide)) (by decide)
   rw [Int.fdiv_eq_ediv_of_nonneg z (by decide)];omega
  obtain ⟨r,e,hr⟩:=hr ((z.fdiv 7*69621).fmod 1073741789)
  dsimp? only [HD,HF,c2,Int.reduceEq,hm0,e]
  exact h _ r ⟨_,_,rfl,h1,h2⟩ hr
noncomputable def vP:bW:=
 aC (bh 3 (sDo lZ [.val (sDo vX [.val (sDo bC [.val (sDo bC [.val (sDo lZ [.nam 2,.val (sC (.int 2147483629))]),.val (sDo oR [.val (sC (.int 104729)),.nam 1])]),.val (sC (.int 17))]),.val (sC (.int 5))]),.val (sC (.int 2147483647))]))
 (aC (iB (di (.val (sDo yC [.val (sDo jY [.nam 0]),.val (sC (.int 60))]))) (gN 4)
 (bh 3 (sDo lZ [.val (sDo bC [.val (sDo bC [.val (sDo oR [.nam 3,.val (sC (.int 48271))]),.val (sDo oR [.val (sDo lZ [.val (cY 0 (.nam 4)),.val (sC (.int 2147483587))]),.val (sDo bC [.nam 4,.val (sC (.int 3))])])]),.nam 4]),.val (sC (.int 2147483629))])))
 (aC (sIf (tB' (sDo dLt [.nam 2,.val (sDo vX [.val (sC (.int 10)),.val (sC (.int 18))])]))
 (bh 2 (sC (.int 0)))
 (bJ))
 (bR (eE [.val (aL 2),.val (aL 3)]))))
theorem Be {ns:List Int} {i:Nat} (hi:i<=100) (hl:ns.length<=63) {Q:D->Option D->Prop} (h:∀ bag:D,Bag bag->Q bag none):iR [.scr ns,.int i] Q:=by
 have tail:∀ x:Int,vP [some (.scr ns),some (.int i),some (.int x),none,none] ⟨fun ρ => Q .non (qQ false ρ),fun d ρ => Q d (qQ false ρ),fun _=>False,fun _=>False⟩:=by
  intro x
  obtain ⟨h1,h2⟩:=jK (x:=x) (m:=2147483629) (by decide)
  have c1:my 104729 i=true:=cb (m:=17) (n:=7) (qN (m:=104730) (by decide) (by decide)) (qN (m:=101) (by omega) (by decide)) (by decide)
  dsimp? only [vP,Int.reduceEq,c1]
  rw [vY (by decide) (by decide) (by omega)]
  dsimp? only [Int.reduceEq]
  refine aR ?_ ?_
  ·split <;> omega
  obtain ⟨h3,h4⟩:=jK (x:=(x.fmod 2147483629+104729*(i:Int)+17) ^ 5) (m:=2147483647) (by decide)
  generalize ((x.fmod 2147483629+104729*(i:Int)+17) ^ 5).fmod 2147483647=y at h3 h4
  (try dsimp? only)
  refine jj (fun k ρ => ∃ (y:Int) (z:Option D),ρ = [some (.scr ns),some (.int i),some (.int x),some (.int y),z]∧0<=y∧y<2147483647) 0 ⟨y,_,rfl,h3,h4⟩ ?_ ?_
  ·rintro k d ρ hd ⟨y,z,rfl,h5,h6⟩ P hP
   obtain ⟨hk,rfl⟩:=mF hd
   have hk2:k<ns.length:=by revert hk;split <;> omega
   have c2:my y 48271=true:=cb (m:=31) (n:=16) (qN (m:=2147483647) (by omega) (by decide)) (qN (m:=48272) (by decide) (by decide)) (by decide)
   obtain ⟨h7,h8⟩:=jK (x:=ns[k]) (m:=2147483587) (by decide)
   have c3:my (ns[k].fmod 2147483587) ((k:Int)+3)=true:=cb (m:=31) (n:=10) (qN (m:=2147483647) (by omega) (by decide)) (qN (m:=1000) (by omega) (by decide)) (by decide)
   have ex:ixF (.scr ns) (k:Int)=some (.int ns[k],none):=CN (mU (List.getElem?_eq_getElem hk2))
   dsimp? only [Int.zero_add,Int.reduceEq,c2,ex,c3]
   obtain ⟨h9,h10⟩:=jK (x:=y*48271+ns[k].fmod 2147483587*((k:Int)+3)+(k:Int)) (m:=2147483629) (by decide)
   exact hP _ ⟨_,_,rfl,h9,by omega⟩
  ·rintro ρ ⟨y,z,rfl,h5,h6⟩
   dsimp? only [UL]
   refine oZ (fun hc=>?_) fun hc=>?_
   ·dsimp? only
    exact h _ ⟨_,_,rfl,h5,h6⟩
   ·dsimp? only
    exact h _ ⟨_,_,rfl,h5,h6⟩
 show fnS 2 3 false (aC (bh 2 (sC (.int 0))) (aC (sIf (tB' (sDo dLt [.nam 1,.val (sDo jY [.nam 0])])) (bh 2 (sDo GP [.val (cY 0 (.nam 1))])) (bJ)) vP)) _ _
 dsimp? only
 refine oZ (fun hc=>?_) fun hc=>?_
 ·have ex:ixF (.scr ns) (i:Int)=some (.int (ns[i]'(by omega)),none):=CN (mU (List.getElem?_eq_getElem (by omega)))
  dsimp? only [ex]
  exact tail _
 ·exact tail _
theorem Bag.clean {d:D} (h:Bag d):d.clean=true:=by
 obtain ⟨a,b,rfl,_⟩:=h;rfl
noncomputable def Ok (n:Nat) (d:D):Prop:=d.dat.canLay0=true∧d.dat.depth<=n
noncomputable def Oks (n:Nat) (ds:List D):Prop:=PyData.canLayAll0 (D.dats ds)=true∧PyData.depthAll (D.dats ds)<=n
theorem Dj (n:Nat):Oks n []:=⟨by simp [D.dats,PyData.canLayAll0],by simp [D.dats,PyData.depthAll]⟩
theorem zz {n:Nat} {d:D} {ds:List D} (h:Ok n d) (hs:Oks n ds):Oks n (d :: ds):=⟨by simp [D.dats,PyData.canLayAll0,h.1,hs.1],by
 have h1:=h.2
 have h2:=hs.2
 simp only [D.dats,PyData.depthAll];omega⟩
theorem Di {α : Type} {n:Nat} (g : α -> D) (h:∀ x,Ok n (g x)):∀ xs:List α,Oks n (xs.map g)
 | []=>Dj n
 | x :: xs=>zz (h x) (Di g h xs)
theorem Rz {n:Nat} {o:Bool} {ds:List D} (h:Oks n ds):Ok (n+1) (.lst o ds):=⟨by simp [D.dat,PyData.canLay0,h.1],by
 have:=h.2
 simp only [D.dat,PyData.depth];omega⟩
theorem RB {n:Nat} {ds:List D} (h:Oks n ds):Ok (n+1) (.tup ds):=⟨by simp [D.dat,PyData.canLay0,h.1],by
 have:=h.2
 simp only [D.dat,PyData.depth];omega⟩
theorem Rx (n:Nat) (i:Int):Ok n (.int i):=⟨by simp [D.dat,PyData.canLay0],by simp [D.dat,PyData.depth]⟩
theorem Ok.mono {m n:Nat} {d:D} (h:Ok m d) (k:m<=n):Ok n d:=⟨h.1,Nat.le_trans h.2 k⟩
theorem yD {d d':D} {n:Nat} (h:Ok n d) (hn:n<=64) (e:d'.dat=d.dat):dNe [d,d']=some (.bl false):=by
 have hs:∀ x:D,x.dat=d.dat->fL x=true:=fun x ex=>by
  unfold fL SeqAt.shaped
  rw [ex,h.1,Bool.true_and,decide_eq_true_eq]
  exact Nat.le_trans h.2 hn
 show (if (fL d&&fL d')=true then some (D.bl (!PyData.eqv d.dat d'.dat)) else none)=_
 rw [hs d rfl,hs d' e,e,SeqAt.eqv_refl _ h.1];rfl
theorem Dz (n:Nat):ou 0 n=(List.range n).map fun k=>D.int ((k:Nat):Int):=by simp [ou]
end Z
namespace L2
open PySem PySem.Spec PyProof.Rows
theorem BZ {P:Nat->Value->Prop} {g:Nat->V} (hg:∀ i v,P i v->RelV (g i) v) {acc:Array Value} {n:Nat} (h:ItemsOf P acc n):Vals ((List.range n).map g) acc.toList:=by
 have:∀ (vs:List V) (us:List Value),vs.length=us.length->(∀ (i:Nat) (v:V) (u:Value),vs[i]? = some v->us[i]? = some u->RelV v u)->Vals vs us:=by
  intro vs
  induction vs with
  | nil=>intro us hl _;cases us with
   | nil=>exact .nil
   | cons _ _=>simp at hl
  | cons v vs ih=>intro us hl hr;cases us with
   | nil=>simp at hl
   | cons u us=>exact .cons (hr 0 v u rfl rfl) (ih us (by simpa using hl) fun i v' u' e1 e2=>hr (i+1) v' u' (by simpa using e1) (by simpa using e2))
 refine this _ _ (by simp [h.1]) fun i v u e1 e2=>?_
 rw [List.getElem?_map] at e1
 obtain ⟨k,e3,rfl⟩:=Option.map_eq_some_iff.mp e1
 have hk:k=i:=by
  have:=List.getElem?_eq_some_iff.mp e3
  obtain ⟨h1,h2⟩:=this
  simpa using h2.symm
 subst hk
 exact hg k u (h.2 k u (by simpa using e2))
section
variable {X:Cx}
theorem xg {a:Expr} {ta:TA} {p p2 pos pos2:Pos} (hc:X.calm=true) (hg:Gl X "list") (hm:X.mg "list" = none) (hg2:Gl X "range") (hm2:X.mg "range" = none) (ha:PA X [a] ta) (hs:starEach [a] X.env=[(false,eval a X.env)]:=by rfl)
  (hs2:starEach [.Call (.Name "range" p2) [a] [] pos2] X.env=[(false,eval (.Call (.Name "range" p2) [a] [] pos2) X.env)]:=by rfl) :
  PE X (.Call (.Name "list" p) [.Call (.Name "range" p2) [a] [] pos2] [] pos) (fun σ H Q=>ta σ H fun vs H1=>∃ j:Int,vs=[.int j] ∧ -(2 ^ 62)<=j∧j<2 ^ 62∧j.toNat<=sizeLine ∧ ∀ l,H1 l=none->Q (.ref l) (upd H1 l (.lst ((List.range j.toNat).map fun (i:Nat)=>.int (i:Int))))):=by
 intro pins s σ H Q I h
 refine Call_ (lN I hg hm boot_list (PyProof.Rows.callWith_type1 ?_ hs2 rfl))
 rw [hs2]
 refine Calls.spliced_cons ?_
 refine Call_ (lN I hg2 hm2 boot_range (PyProof.Rows.callWith_type1 (thn (ha pos2 pins s σ H _ I h) fun us s1 ⟨vs,H1,I1,r1,q1⟩=>?_) hs rfl))
 obtain ⟨j,e,b1,b2,hz,q⟩:=q1
 subst e
 cases r1 with
 | cons r rr=>
  cases rr
  obtain ⟨t,rfl⟩:=r
  refine call_range_1 ?_
  refine Calls.spliced_nil ?_
  have I2:Inv X pins σ H1 { s1 with heap:=s1.heap.push { cls:=.type "range",data:=.fields #[.int 0 s1.toks,.int j t,.int 1 (s1.toks+1)] },toks:=s1.toks+1+1 }:=I1.kept fun b o e=>Heap.get?_push_of_some _ e
  have p24:sizeLine<=2 ^ 24:=by rw [sizeLine_eq];decide
  refine call_list_range (n:=j.toNat) (I2.ok.hd hc) (IsRange.new ..) (small_one (by omega) (by omega) b1 b2) (by rw [rangeSize_one];split <;> omega) (Nat.le_trans hz p24) fun h' tk acc' c' kp e hacc=>?_
  have r':Vals ((List.range j.toNat).map fun (i:Nat)=>V.int (i:Int)) acc'.toList:=BZ (fun i v ⟨t,e⟩=>⟨t,by rw [e];congr 1;omega⟩) hacc
  exact ⟨.ref _,_,I2.laid (t':=tk) kp (Nat.le_refl _) (show fP X.prog X.w _ h' _ (.lst _) from ⟨by rw [List.length_map,List.length_range];exact hz,acc'.toList,c',r',by rw [Array.toArray_toList];exact e⟩),rfl,q _ (I2.hok.fresh (Nat.le_refl _))⟩
noncomputable def iM:List D->Option D
 | [.int j]=>if (decide (-(2 ^ 62)<=j∧j<2 ^ 62∧j.toNat<=sizeLine))=true then some (.lst true ((List.range j.toNat).map fun (i:Nat)=>.int (i:Int))) else none
 | _=>none
noncomputable def Bx:List V->Hp->VK->Prop:=fun vs H1 Q=>∃ j:Int,vs=[.int j] ∧ -(2 ^ 62)<=j∧j<2 ^ 62∧j.toNat<=sizeLine ∧ ∀ l,H1 l=none->Q (.ref l) (upd H1 l (.lst ((List.range j.toNat).map fun (i:Nat)=>.int (i:Int))))
theorem Rps.rng {K:PySem.W.Frag} {F:Addr->Prop} {H:Hp}:∀ l:List Nat,Rps K F H (l.map fun (i:Nat)=>V.int (i:Int)) (l.map fun (i:Nat)=>D.int (i:Int)) []
 | []=>.nil
 | n :: ns=>.cons (L:=[]) (M:=[]) (.int n) (Rps.rng ns)
theorem sE {K:PySem.W.Frag}:bM K Bx iM:=by
 intro F H vs ds f Q r e q
 unfold iM at e
 split at e
 ·split at e
  ·rename_i hs
   cases e
   obtain ⟨x,L,rfl,r1⟩:=r.one
   cases r1
   obtain ⟨h1,h2,h3⟩:=of_decide_eq_true hs
   exact ⟨_,rfl,h1,h2,h3,fun l hl=>q _ _ _ (.list hl (Rps.rng _))⟩
  ·cases e
 ·cases e
theorem xO {a:Expr} {o:Opd} {p p2 pos pos2:Pos} (hc:X.calm=true) (hg:Gl X "list") (hm:X.mg "list" = none) (hg2:Gl X "range") (hm2:X.mg "range" = none) (ha:SA X [a] [o]) (hs:starEach [a] X.env=[(false,eval a X.env)]:=by rfl)
  (hs2:starEach [.Call (.Name "range" p2) [a] [] pos2] X.env=[(false,eval (.Call (.Name "range" p2) [a] [] pos2) X.env)]:=by rfl) :
  SE X (.Call (.Name "list" p) [.Call (.Name "range" p2) [a] [] pos2] [] pos) (sDo iM [o]):=
 (xg hc hg hm hg2 hm2 ha hs hs2).wk fun σ H Q h=>gK sE h
end
noncomputable def uw (ns:List Int):Nat:=(firstMet (fun i=>ns.getD i 0) ns.length).length
section
variable {X:Cx}
theorem FP {a:Expr} {ta:TA} {p p2 pos pos2:Pos} (hc:X.calm=true) (hg:Gl X "len") (hm:X.mg "len" = none) (hg2:Gl X "set") (hm2:X.mg "set" = none) (ha:PA X [a] ta) (hs:starEach [a] X.env=[(false,eval a X.env)]:=by rfl)
  (hs2:starEach [.Call (.Name "set" p2) [a] [] pos2] X.env=[(false,eval (.Call (.Name "set" p2) [a] [] pos2) X.env)]:=by rfl) :
  PE X (.Call (.Name "len" p) [.Call (.Name "set" p2) [a] [] pos2] [] pos) (fun σ H Q=>ta σ H fun vs H1=>∃ (l:Addr) (ns:List Int),vs=[.ref l]∧SqL X.K H1 l (ns.map V.int)∧ns.length+1<scanBound∧Q (.int (uw ns)) H1):=by
 intro pins s σ H Q I h
 refine Call_ (lN I hg hm boot_len (PyProof.Rows.callWith_builtin1 ?_ hs2 rfl))
 rw [hs2]
 refine Calls.spliced_cons ?_
 refine Call_ (lN I hg2 hm2 PyProof.Rows.boot_set (PyProof.Rows.callWith_type1 (thn (ha pos2 pins s σ H _ I h) fun us s1 ⟨vs,H1,I1,r1,q1⟩=>?_) hs rfl))
 obtain ⟨l,ns,e,hq,hb,q⟩:=q1
 subst e
 cases r1 with
 | cons r rr=>
  cases rr
  cases r
  obtain ⟨its,r',pl,hz⟩:=I1.list hq
  have hlen:its.length=ns.length:=by have:=r'.length;rw [List.length_map] at this;exact this.symm
  refine call_set_list (ns:=ns) (I1.ok.hd hc) pl.isList (by simpa using intsAre_of r') (by simp only [List.size_toArray];omega) fun h' tk hS kp=>?_
  refine Calls.spliced_nil ?_
  obtain ⟨o,es,ep,t,ho,hex,hd,_,_,hsz,hf,hn⟩:=hS
  have I2:Inv X pins σ H1 { s1 with heap:=h',toks:=tk }:=I1.kept fun b o e=>kp b o (Heap.lt_size e) e
  have hfit:(es.size:Int)<2 ^ 63:=by
   have h1:=firstMet_length_le (fun i=>ns.getD i 0) ns.length
   have hz':sizeLine=16777216:=sizeLine_eq
   rw [List.length_map] at hz
   simp only [List.size_toArray,hlen] at hn
   omega
  refine call_len_set ho hex hd hf hfit ⟨.int es.size,H1,I2.tok _,⟨_,rfl⟩,?_⟩
  have e2:es.size=uw ns:=by
   simp only [List.size_toArray,hlen] at hn
   exact hn
  rw [e2];exact q
noncomputable def D.ints:List D->Option (List Int)
 | []=>some []
 | .int i :: ds=>(D.ints ds).map (i :: ·)
 | _=>none
theorem Rps.intsOf {K:PySem.W.Frag} {F:Addr->Prop} {H:Hp}:∀ {vs:List V} {ds:List D} {L:List Addr} {ns:List Int},Rps K F H vs ds L->D.ints ds=some ns->vs=ns.map V.int
 | _,_,_,_,.nil,e=>by cases e;rfl
 | _,_,_,_,.cons (d:=d) (ds:=ds) r rs,e=>by
  cases d with
  | int i=>
   rw [D.ints] at e
   obtain ⟨ns,e1,rfl⟩:=Option.map_eq_some_iff.mp e
   cases r
   rw [Rps.intsOf rs e1];rfl
  | _=>simp [D.ints] at e
noncomputable def oO:List D->Option D
 | [.lst _ ds]=>(D.ints ds).bind fun ns=>if ns.length+1<4096 then some (.int (uw ns)) else none
 | _=>none
theorem yF {K:PySem.W.Frag}:bM K (fun vs H1 Q=>∃ (l:Addr) (ns:List Int),vs=[.ref l]∧SqL K H1 l (ns.map V.int)∧ns.length+1<scanBound∧Q (.int (uw ns)) H1) oO:=by
 intro F H vs ds f Q r e q
 unfold oO at e
 split at e
 ·obtain ⟨ns,e1,e2⟩:=Option.bind_eq_some_iff.mp e
  split at e2
  ·rename_i hn
   cases e2
   obtain ⟨x,L,rfl,r1⟩:=r.one
   obtain ⟨a,vs,L1,rfl,ha,ra,_⟩:=r1.lst_at
   have:=ra.intsOf e1
   subst this
   exact ⟨_,_,rfl,.of ha,hn,q _ _ _ (.ofFlat rfl)⟩
  ·cases e2
 ·cases e
theorem Gh {a:Expr} {o:Opd} {p p2 pos pos2:Pos} (hc:X.calm=true) (hg:Gl X "len") (hm:X.mg "len" = none) (hg2:Gl X "set") (hm2:X.mg "set" = none) (ha:SA X [a] [o]) (hs:starEach [a] X.env=[(false,eval a X.env)]:=by rfl)
  (hs2:starEach [.Call (.Name "set" p2) [a] [] pos2] X.env=[(false,eval (.Call (.Name "set" p2) [a] [] pos2) X.env)]:=by rfl) :
  SE X (.Call (.Name "len" p) [.Call (.Name "set" p2) [a] [] pos2] [] pos) (sDo oO [o]):=
 (FP hc hg hm hg2 hm2 ha hs hs2).wk fun σ H Q h=>gK yF h
end
end L2
namespace Z
open PySem L2
noncomputable def cz:bV:=fnS 1 0 false
 (bR (jw (sDo eX [.nam 0,.val (sC (.ty "int"))]) (DP (sDo eX [.nam 0,.val (sC (.ty "bool"))]))))
noncomputable def aK:bV:=fnS 3 0 false
 (bR (jw (aM 1 cz [.nam 0]) (qt dLe dLe (.nam 1) (.nam 0) (.nam 2))))
noncomputable def bF:bV:=fnS 3 0 false
 (bR (jw (sDo eX [.nam 0,.val (sC (.ty "tuple"))]) (qt dLe dLe (.nam 1) (.val (sDo jY [.nam 0])) (.nam 2))))
noncomputable def iT:bV:=fnS 2 4 false
 (aC (sIf (cP (eQ (.val (aM 3 bF [.nam 0,.val (sC (.int 4)),.val (sC (.int 4))]))))
 (bR (sC (.bl false)))
 (bJ))
 (aC (mG (gT [gN 2,gN 3,gN 4,gN 5]) (aL 0))
 (aC (sIf (jr (cP (eQ (.val (aM 3 aK [.nam 2,.val (sC (.int 0)),.val (sDo pX [.nam 1,.val (sC (.int 1))])])))) (jr (cP (eQ (.val (aM 3 aK [.nam 3,.val (sC (.int 0)),.val (sDo pX [.nam 1,.val (sC (.int 1))])])))) (tB' (sDo dEq [.nam 2,.nam 3]))))
 (bR (sC (.bl false)))
 (bJ))
 (bR (jw (aM 3 aK [.nam 4,.val (sC (.int 1)),.val (sC (.int 9))]) (aM 3 aK [.nam 5,.val (sC (.int 0)),.val (sC (.int 99))]))))))
noncomputable def iD:bV:=fnS 2 7 false
 (aC (bh 2 (sDo iM [.nam 0]))
 (aC (iB (cM (aL 1)) (gT [gN 3,gN 4,gN 5,gN 6])
 (aC (mG (gT [gN 7,gN 8]) (gb [.val (cY 2 (.nam 3)),.val (cY 2 (.nam 4))]))
 (bh 2 (bN (cM (aL 2)) 1 [7,8] (gN 0) (cI) (Gb (tB' (sDo dEq [.nam 0,.nam 2])) (aL 1) (aL 0))))))
 (bR (sDo dEq [.val (sDo oO [.nam 2]),.val (sC (.int 1))]))))
noncomputable def mH:bV:=fnS 1 2 false
 (aC (sIf (cP (eQ (.val (aM 3 bF [.nam 0,.val (sC (.int 2)),.val (sC (.int 2))]))))
 (bR (sC (.bl false)))
 (bJ))
 (aC (mG (gT [gN 1,gN 2]) (aL 0))
 (aC (sIf (jr (cP (eQ (.val (aM 3 aK [.nam 1,.val (sC (.int 1)),.val (sC (.int 4))])))) (cP (eQ (.val (aM 3 bF [.nam 2,.val (sC (.int 0)),.val (sC (.int 6))])))))
 (bR (sC (.bl false)))
 (bJ))
 (bR (jw (sDo oK [.val (bN (cM (aL 2)) 1 [1] (gN 0) (cI) (aM 2 iT [.nam 0,.nam 1]))]) (aM 2 iD [.nam 1,.nam 2]))))))
end Z
namespace Z
open PySem L2 TM
theorem QH (i:Int):eX [.int i,.ty "int"]=some (.bl true):=rfl
theorem QG (i:Int):eX [.int i,.ty "bool"]=some (.bl false):=rfl
theorem QJ (ds:List D):eX [.tup ds,.ty "tuple"]=some (.bl true):=rfl
theorem yR {i:Int} {Q:D->Option D->Prop} (h:Q (.bl true) none):cz [.int i] Q:=by
 dsimp? only [cz,QH,QG]
 exact h
theorem oY {i lo hi:Int} {Q:D->Option D->Prop} (h:Q (.bl (decide (lo<=i)&&decide (i<=hi))) none):aK [.int i,.int lo,.int hi] Q:=by
 dsimp? only [aK]
 refine yR ?_
 dsimp? only
 refine oZ (fun hc=>?_) fun hc=>?_
 ·dsimp? only
  rw [decide_eq_true hc,Bool.true_and] at h
  exact h
 ·rw [decide_eq_false hc,Bool.false_and] at h
  exact h
theorem vh {ds:List D} {lo hi:Int} {Q:D->Option D->Prop} (h:Q (.bl (decide (lo<=(ds.length:Int))&&decide ((ds.length:Int)<=hi))) none):bF [.tup ds,.int lo,.int hi] Q:=by
 dsimp? only [bF,QJ]
 refine oZ (fun hc=>?_) fun hc=>?_
 ·dsimp? only
  rw [decide_eq_true hc,Bool.true_and] at h
  exact h
 ·rw [decide_eq_false hc,Bool.false_and] at h
  exact h
structure Ln where
 a:Nat
 b:Nat
 s:Nat
 m:Nat
noncomputable def Ln.d (l:Ln):D:=.tup [.int l.a,.int l.b,.int l.s,.int l.m]
noncomputable def gm (ls:List Ln):D:=.tup (ls.map Ln.d)
noncomputable def jk (n:Nat) (ls:List Ln):D:=.tup [.int n,gm ls]
structure Ln.Ok (n:Nat) (l:Ln):Prop where
 a:l.a<n
 b:l.b<n
 ne:l.a≠l.b
 s:1<=l.s∧l.s<=9
 m:l.m<=99
theorem Vv (l:Ln):l.d.sh=true:=rfl
theorem Pk (l:Ln):l.d.fz=l.d:=rfl
theorem GJ (l:Ln):l.d.clean=true:=rfl
theorem lW (ls:List Ln):D.shs (ls.map Ln.d)=true:=aP Ln.d Vv ls
theorem mZ (ls:List Ln):D.fzs (ls.map Ln.d)=ls.map Ln.d:=jA Ln.d Pk ls
theorem Ar (ls:List Ln):D.cleans (ls.map Ln.d)=true:=gD Ln.d GJ ls
theorem JC (ls:List Ln):(gm ls).sh=true:=by show D.shs (ls.map Ln.d)=true;exact lW ls
theorem Ho (ls:List Ln):(gm ls).fz=gm ls:=by show D.tup (D.fzs (ls.map Ln.d))=_;rw [mZ];rfl
theorem ym (ls:List Ln):(gm ls).clean=true:=by show D.cleans (ls.map Ln.d)=true;exact Ar ls
theorem mL (n:Nat) (ls:List Ln):(jk n ls).sh=true:=by show (true&&((gm ls).sh&&true))=true;rw [JC];rfl
theorem wu (n:Nat) (ls:List Ln):(jk n ls).fz=jk n ls:=by show D.tup [.int n,(gm ls).fz]=_;rw [Ho];rfl
theorem uW (n:Nat) (ls:List Ln):(jk n ls).clean=true:=by show (true&&((gm ls).clean&&true))=true;rw [ym];rfl
theorem wC (n:Nat) (ls:List Ln):ixF (jk n ls) 0=some (.int n,none):=ixF_t0 _ _ rfl
theorem kj {i lo hi:Int} (h1:lo<=i) (h2:i<=hi) {Q:D->Option D->Prop} (h:Q (.bl true) none):aK [.int i,.int lo,.int hi] Q:=oY (by rw [decide_eq_true h1,decide_eq_true h2];exact h)
theorem Hx {ds:List D} {lo hi:Int} (h1:lo<=(ds.length:Int)) (h2:(ds.length:Int)<=hi) {Q:D->Option D->Prop} (h:Q (.bl true) none):bF [.tup ds,.int lo,.int hi] Q:=vh (by rw [decide_eq_true h1,decide_eq_true h2];exact h)
theorem Bc {n:Nat} {l:Ln} (h:l.Ok n) {Q:D->Option D->Prop} (q:Q (.bl true) none):iT [l.d,.int n] Q:=by
 have h1:=h.a;have h2:=h.b;have h3:=h.ne;have h4:=h.s;have h5:=h.m
 have hne:((l.a:Int)==(l.b:Int))=false:=by rw [beq_eq_false_iff_ne];omega
 dsimp? only [iT,Ln.d]
 refine Hx (by simp) (by simp) ?_
 dsimp? only
 refine kj (by omega) (by omega) ?_
 dsimp? only
 refine kj (by omega) (by omega) ?_
 dsimp? only [hne]
 refine kj (by omega) (by omega) ?_
 dsimp? only
 refine kj (by omega) (by omega) ?_
 (try dsimp? only)
 exact q
theorem zY (g:List Int):D.shs (g.map D.int)=true:=aP D.int (fun _=>rfl) g
theorem yK (g:List Int):D.fzs (g.map D.int)=g.map D.int:=jA D.int (fun _=>rfl) g
theorem yU {o:Bool} {g:List Int} {k:Nat} (h:k<g.length):ixF (.lst o (g.map D.int)) (k:Int)=some (.int (g.getD k 0),none):=by
 refine nq _ _ (yg D.int ?_) rfl
 rw [List.getElem?_eq_getElem h,List.getD_eq_getElem?_getD,List.getElem?_eq_getElem h];rfl
theorem ints_map:∀ g:List Int,D.ints (g.map D.int)=some g
 | []=>rfl
 | x :: g=>by rw [List.map_cons,D.ints,ints_map g];rfl
theorem za {o:Bool} {g:List Int} (h:g.length<=100):oO [.lst o (g.map D.int)]=some (.int (uw g)):=by
 show (D.ints _).bind _=_
 rw [ints_map g,Option.bind_some,if_pos (by omega)]
theorem By (n:Nat):(List.range n).map (fun (i:Nat)=>D.int (i:Int))=((List.range n).map fun (i:Nat)=>(i:Int)).map D.int:=by rw [List.map_map];rfl
theorem wF {n:Nat} (h:n<=100):iM [.int (n:Int)]=some (.lst true (((List.range n).map fun (i:Nat)=>(i:Int)).map D.int)):=by
 have p62:(2:Int) ^ 62=4611686018427387904:=by decide
 have e:(n:Int).toNat=n:=by omega
 unfold iM
 dsimp only
 rw [if_pos (by rw [decide_eq_true_eq,p62,sizeLine_eq,e];omega),e,By]
noncomputable def pS (g:List Int) (l:Ln):List Int:=g.map fun x=>if x=g.getD l.b 0 then g.getD l.a 0 else x
noncomputable def pG (n:Nat) (ls:List Ln):List Int:=ls.foldl pS ((List.range n).map fun (i:Nat)=>(i:Int))
theorem Iv (g:List Int) (l:Ln):(pS g l).length=g.length:=by simp [pS]
theorem Ax {α β : Type} (f : β -> α -> β) (z : β) (xs:List α) (k:Nat) (x : α) (h:xs[k]? = some x):(xs.take (k+1)).foldl f z=f ((xs.take k).foldl f z) x:=by
 rw [List.take_add_one,h,List.foldl_append];rfl
theorem um {n:Nat} {ls:List Ln} (hn:n<=4) (hl:ls.length<=100) (ho:∀ l∈ls,l.Ok n) {Q:D->Option D->Prop} (h:Q (.bl ((uw (pG n ls):Int)==1)) none):iD [.int n,gm ls] Q:=by
 dsimp? only [iD,wF (show n<=100 by omega),gm,lW,mZ,List.length_map]
 refine aR (by omega) ?_
 (try dsimp? only)
 refine jj (fun k ρ => ∃ x3 x4 x5 x6 x7 x8,ρ = [some (.int n),some (.tup (ls.map Ln.d)),some (.lst true (((ls.take k).foldl pS ((List.range n).map fun (i:Nat)=>(i:Int))).map D.int)),x3,x4,x5,x6,x7,x8]∧((ls.take k).foldl pS ((List.range n).map fun (i:Nat)=>(i:Int))).length=n) 0
  ⟨_,_,_,_,_,_,by rw [List.take_zero];rfl,by simp⟩ ?_ ?_
 ·rintro k d ρ hd ⟨x3,x4,x5,x6,x7,x8,rfl,hgl⟩ P hP
  rw [Nat.zero_add] at hgl
  rw [List.getElem?_map] at hd
  obtain ⟨l,hlk,rfl⟩:=Option.map_eq_some_iff.mp hd
  have hlo:=ho l (List.mem_of_getElem? hlk)
  have ha:=hlo.a
  have hb:=hlo.b
  have hf:=Ax pS ((List.range n).map fun (i:Nat)=>(i:Int)) ls k l hlk
  rw [Nat.zero_add]
  generalize (ls.take k).foldl pS ((List.range n).map fun (i:Nat)=>(i:Int))=g at hgl hf hP ⊢
  dsimp? only [Ln.d,yU (o:=true) (g:=g) (k:=l.a) (by omega),yU (o:=true) (g:=g) (k:=l.b) (by omega),zY,yK,List.length_map,hgl]
  refine aR (by omega) ?_
  dsimp? only [zY,yK]
  refine bK D.int (fun x=>D.int (if x=g.getD l.b 0 then g.getD l.a 0 else x)) (fun ρ => ∃ x,ρ = [x,some (.int (g.getD l.a 0)),some (.int (g.getD l.b 0))]) ⟨_,rfl⟩ ?_ ?_
  ·rintro x _ ρ ⟨y,rfl⟩ P hP
   dsimp? only
   refine qb (fun hc=>?_) fun hc=>?_
   ·(try dsimp? only)
    rw [if_pos (by simpa using hc)] at hP
    exact hP _ ⟨_,rfl⟩
   ·(try dsimp? only)
    rw [if_neg (by simpa using hc)] at hP
    exact hP _ ⟨_,rfl⟩
  rintro ρ ⟨y,rfl⟩
  (try dsimp? only)
  have e1:g.map (fun x=>D.int (if x=g.getD l.b 0 then g.getD l.a 0 else x))=(pS g l).map D.int:=by unfold pS;rw [List.map_map];rfl
  rw [e1]
  rw [Nat.zero_add] at hP
  rw [hf] at hP
  exact hP _ ⟨_,_,_,_,_,_,rfl,by rw [Iv];exact hgl⟩
 rintro ρ ⟨x3,x4,x5,x6,x7,x8,rfl,hgl⟩
 have ef:0+(ls.map Ln.d).length=ls.length:=by simp
 rw [ef,List.take_length] at hgl ⊢
 dsimp? only [za (o:=true) (g:=ls.foldl pS ((List.range n).map fun (i:Nat)=>(i:Int))) (by omega)]
 exact h
theorem uY (ds:List D) (a:Nat) (ha:a<=ds.length):cutD ds (some (a:Int)) none=ds.drop a:=by
 unfold cutD
 rw [HT.DN,HT.zR,Nat.min_eq_left ha,List.take_of_length_le (by rw [List.length_drop];omega)]
theorem KN (ds:List D) (a:Nat) (ha:a<=ds.length):cutD ds none (some (a:Int))=ds.take a:=by
 unfold cutD
 rw [HT.DN,HT.zR,Nat.min_eq_left ha,List.drop_zero,Nat.sub_zero]
noncomputable def J (n:Nat) (ls:List Ln):Bool:=(uw (pG n ls):Int)==1
end Z
namespace Z
open PySem L2 TM PyProof.Rows
noncomputable def lo (a b:Int):Int:=if b<a then b else a
noncomputable def hi (a b:Int):Int:=if b>a then b else a
noncomputable def lS (g:List Int) (l:Ln):List Int:=g.map fun x=>if x=hi (g.getD l.a 0) (g.getD l.b 0) then lo (g.getD l.a 0) (g.getD l.b 0) else x
noncomputable def lG (n:Nat) (ls:List Ln):List Int:=ls.foldl lS ((List.range n).map fun (i:Nat)=>(i:Int))
theorem sW (g:List Int) (l:Ln):(lS g l).length=g.length:=by simp [lS]
theorem Ih {g:List Int} (hg:1<=g.length):uw g=1 ↔ ∀ x,x<g.length->g.getD x 0=g.getD 0 0:=by
 unfold uw
 constructor
 ·intro h x hx
  obtain ⟨c,hc⟩:∃ c,firstMet (fun i=>g.getD i 0) g.length=[c]:=List.length_eq_one_iff.mp h
  have all:∀ x,x<g.length->g.getD x 0=c:=fun x hx=>by
   have h1:=firstMet_any (fun i=>g.getD i 0) g.length (g.getD x 0)
   rw [hc] at h1
   have h2:((List.range g.length).map fun i=>g.getD i 0).any (· == g.getD x 0)=true:=List.any_eq_true.mpr ⟨g.getD x 0,List.mem_map.mpr ⟨x,List.mem_range.mpr hx,rfl⟩,by simp⟩
   rw [h2] at h1
   simp at h1
   exact h1.symm
  rw [all x hx,all 0 (by omega)]
 ·intro h
  have:∀ k,k+1<=g.length->firstMet (fun i=>g.getD i 0) (k+1)=[g.getD 0 0]:=by
   intro k
   induction k with
   | zero=>intro _;rw [firstMet_succ,firstMet_zero];rfl
   | succ k ih=>
    intro hk
    rw [firstMet_succ,ih (by omega),h (k+1) (by omega)]
    simp [step_dedup]
  obtain ⟨k,hk⟩:∃ k,g.length=k+1:=⟨g.length - 1,by omega⟩
  rw [hk,this k (by omega)];rfl
theorem pZ {g:List Int} {f:Int->Int} {x:Nat} (h:x<g.length):(g.map f).getD x 0=f (g.getD x 0):=by
 rw [List.getD_eq_getElem?_getD,List.getD_eq_getElem?_getD,List.getElem?_map,List.getElem?_eq_getElem h];rfl
structure Alike (n:Nat) (g h:List Int):Prop where
 gl:g.length=n
 hl:h.length=n
 e:∀ x y,x<n->y<n->(g.getD x 0=g.getD y 0↔h.getD x 0=h.getD y 0)
 z:h.getD 0 0=0
 p:∀ x,x<n->0<=h.getD x 0
theorem Wv (x a b:Int):(if x=b then a else x)=if x=a∨x=b then a else x:=by
 by_cases h:x=b
 ·rw [if_pos h,if_pos (.inr h)]
 ·rw [if_neg h]
  by_cases k:x=a
  ·rw [if_pos (.inl k)];exact k
  ·rw [if_neg (fun z=>z.elim k h)]
theorem Ww (x a b:Int):(if x=hi a b then lo a b else x)=if x=a∨x=b then lo a b else x:=by
 unfold hi lo
 by_cases c:b<a
 ·simp only [c,if_true]
  repeat' split
  all_goals omega
 ·simp only [c,if_false]
  repeat' split
  all_goals omega
theorem QZ (a b:Int):lo a b=a∨lo a b=b:=by
 unfold lo
 split
 ·exact .inr rfl
 ·exact .inl rfl
theorem Alike.step {n:Nat} {g h:List Int} {l:Ln} (A:Alike n g h) (hl:l.Ok n):Alike n (pS g l) (lS h l):=by
 have ha:=hl.a
 have hb:=hl.b
 have e1:∀ x,x<n->(pS g l).getD x 0=if g.getD x 0=g.getD l.a 0∨g.getD x 0=g.getD l.b 0 then g.getD l.a 0 else g.getD x 0:=fun x hx=>(pZ (by rw [A.gl];exact hx)).trans (Wv _ _ _)
 have e2:∀ x,x<n->(lS h l).getD x 0=if h.getD x 0=h.getD l.a 0∨h.getD x 0=h.getD l.b 0 then lo (h.getD l.a 0) (h.getD l.b 0) else h.getD x 0:=fun x hx=>(pZ (by rw [A.hl];exact hx)).trans (Ww _ _ _)
 have px:∀ x,x<n->((g.getD x 0=g.getD l.a 0∨g.getD x 0=g.getD l.b 0)↔(h.getD x 0=h.getD l.a 0∨h.getD x 0=h.getD l.b 0)):=fun x hx=>or_congr (A.e x l.a hx ha) (A.e x l.b hx hb)
 have lm:=QZ (h.getD l.a 0) (h.getD l.b 0)
 refine ⟨by rw [Iv];exact A.gl,by rw [sW];exact A.hl,fun x y hx hy=>?_,?_,fun x hx=>?_⟩
 ·rw [e1 x hx,e1 y hy,e2 x hx,e2 y hy]
  by_cases cx:g.getD x 0=g.getD l.a 0∨g.getD x 0=g.getD l.b 0
  ·rw [if_pos cx,if_pos ((px x hx).mp cx)]
   by_cases cy:g.getD y 0=g.getD l.a 0∨g.getD y 0=g.getD l.b 0
   ·rw [if_pos cy,if_pos ((px y hy).mp cy)];exact ⟨fun _=>rfl,fun _=>rfl⟩
   ·have cy':=fun z=>cy ((px y hy).mpr z)
    rw [if_neg cy,if_neg cy']
    exact ⟨fun e=>absurd (.inl e.symm) cy,fun e=>absurd (by rw [← e];exact lm) cy'⟩
  ·have cx':=fun z=>cx ((px x hx).mpr z)
   rw [if_neg cx,if_neg cx']
   by_cases cy:g.getD y 0=g.getD l.a 0∨g.getD y 0=g.getD l.b 0
   ·rw [if_pos cy,if_pos ((px y hy).mp cy)]
    exact ⟨fun e=>absurd (.inl e) cx,fun e=>absurd (by rw [e];exact lm) cx'⟩
   ·rw [if_neg cy,if_neg fun z=>cy ((px y hy).mpr z)]
    exact A.e x y hx hy
 ·rw [e2 0 (by omega),A.z]
  have pa:=A.p l.a ha
  have pb:=A.p l.b hb
  split
  ·unfold lo;split <;> omega
  ·rfl
 ·rw [e2 x hx]
  split
  ·rcases lm with z | z <;> rw [z]
   ·exact A.p l.a ha
   ·exact A.p l.b hb
  ·exact A.p x hx
theorem pP {n:Nat}:∀ (ls:List Ln) {g h:List Int},Alike n g h->(∀ l∈ls,l.Ok n)->Alike n (ls.foldl pS g) (ls.foldl lS h)
 | [],_,_,A,_=>A
 | l :: ls,_,_,A,ho=>pP ls (A.step (ho l List.mem_cons_self)) fun l' h'=>ho l' (List.mem_cons_of_mem _ h')
theorem Wh {n:Nat} {ls:List Ln} (hn:1<=n) (ho:∀ l∈ls,l.Ok n):J n ls=decide (lG n ls=List.replicate n 0):=by
 have g0:∀ x,x<n->((List.range n).map fun (i:Nat)=>(i:Int)).getD x 0=x:=fun x hx=>by
  rw [List.getD_eq_getElem?_getD,List.getElem?_map,List.getElem?_range hx];rfl
 have A:Alike n (pG n ls) (lG n ls):=pP ls ⟨by simp,by simp,fun x y _ _=>Iff.rfl,by rw [g0 0 (by omega)];rfl,fun x hx=>by rw [g0 x hx];omega⟩ ho
 have h1:=Ih (g:=pG n ls) (by rw [A.gl];exact hn)
 have h2:J n ls=true↔lG n ls=List.replicate n 0:=by
  unfold J
  rw [beq_iff_eq]
  constructor
  ·intro h
   have h3:=h1.mp (by omega)
   rw [A.gl] at h3
   apply List.ext_getElem?
   intro x
   by_cases hx:x<n
   ·have h4:=(A.e x 0 hx (by omega)).mp (h3 x hx)
    rw [A.z,List.getD_eq_getElem?_getD] at h4
    have q:=List.getElem?_eq_getElem (l:=lG n ls) (i:=x) (by rw [A.hl];exact hx)
    rw [q] at h4 ⊢
    rw [List.getElem?_replicate,if_pos hx]
    exact congrArg some h4
   ·rw [List.getElem?_eq_none (by rw [A.hl];omega),List.getElem?_eq_none (by rw [List.length_replicate];omega)]
  ·intro h
   have:uw (pG n ls)=1:=h1.mpr fun x hx=>by
    rw [A.gl] at hx
    refine (A.e x 0 hx (by omega)).mpr ?_
    rw [A.z,h,List.getD_eq_getElem?_getD,List.getElem?_replicate,if_pos hx];rfl
   omega
 rcases hJ:J n ls with _ | _
 ·exact (decide_eq_false fun z=>by rw [h2.mpr z] at hJ;cases hJ).symm
 ·exact (decide_eq_true (h2.mp hJ)).symm
theorem Gz {α : Type} (g : α -> Bool):∀ xs:List α,D.bools (xs.map fun x=>D.bl (g x))=some (xs.map g)
 | []=>rfl
 | x :: xs=>by rw [List.map_cons,D.bools,Gz g xs];rfl
theorem oM {α : Type} (o:Bool) (g : α -> Bool) (xs:List α):oK [.lst o (xs.map fun x=>D.bl (g x))]=some (.bl (xs.all g)):=by
 show (D.bools _).map _=_
 rw [Gz g xs]
 show some (D.bl ((xs.map g).all id))=_
 rw [List.all_map];rfl
structure Good (n:Nat) (ls:List Ln):Prop where
 n1:1<=n
 n4:n<=4
 l:ls.length<=6
 o:∀ l∈ls,l.Ok n
 j:J n ls=true
noncomputable def Cn (n:Nat) (ls:List Ln):Prop:=∀ c:Nat->Int,(∀ l∈ls,c l.a=c l.b) -> ∀ x,x<n->c x=c 0
structure Fin (n:Nat) (c:Nat->Int) (h:List Int):Prop where
 hl:h.length=n
 e:∀ x y,x<n->y<n->h.getD x 0=h.getD y 0->c x=c y
theorem qg {n:Nat} {h:List Int} {l:Ln} (hl:h.length=n) {x:Nat} (hx:x<n):(lS h l).getD x 0=if h.getD x 0=hi (h.getD l.a 0) (h.getD l.b 0) then lo (h.getD l.a 0) (h.getD l.b 0) else h.getD x 0:=pZ (by rw [hl];exact hx)
theorem Fin.step {n:Nat} {c:Nat->Int} {h:List Int} {l:Ln} (A:Fin n c h) (ho:l.Ok n) (hc:c l.a=c l.b):Fin n c (lS h l):=by
 have ha:=ho.a
 have hb:=ho.b
 refine ⟨by rw [sW];exact A.hl,fun x y hx hy=>?_⟩
 rw [qg A.hl hx,qg A.hl hy]
 have h1:=A.e x y hx hy
 have h2:=A.e x l.a hx ha
 have h3:=A.e x l.b hx hb
 have h4:=A.e y l.a hy ha
 have h5:=A.e y l.b hy hb
 unfold hi lo
 generalize c x=cx at *
 generalize c y=cy at *
 generalize c l.a=ca at *
 generalize c l.b=cb at *
 generalize h.getD x 0=hx' at *
 generalize h.getD y 0=hy' at *
 generalize h.getD l.a 0=ha' at *
 generalize h.getD l.b 0=hb' at *
 repeat' split
 all_goals omega
theorem Cr {n:Nat} {c:Nat->Int}:∀ (ls:List Ln) {h:List Int},Fin n c h->(∀ l∈ls,l.Ok n)->(∀ l∈ls,c l.a=c l.b)->Fin n c (ls.foldl lS h)
 | [],_,A,_,_=>A
 | l :: ls,_,A,ho,hc=>Cr ls (A.step (ho l List.mem_cons_self) (hc l List.mem_cons_self)) (fun l' h'=>ho l' (List.mem_cons_of_mem _ h')) fun l' h'=>hc l' (List.mem_cons_of_mem _ h')
theorem zT {n:Nat}:∀ (ls:List Ln) {h:List Int} {x y:Nat},h.length=n->x<n->y<n->h.getD x 0=h.getD y 0->(ls.foldl lS h).getD x 0=(ls.foldl lS h).getD y 0
 | [],_,_,_,_,_,_,e=>e
 | l :: ls,h,x,y,hl,hx,hy,e=>zT ls (h:=lS h l) (by rw [sW];exact hl) hx hy (by rw [qg hl hx,qg hl hy,e])
theorem Fj {n:Nat} {h:List Int} {l:Ln} (hl:h.length=n) (ho:l.Ok n):(lS h l).getD l.a 0=(lS h l).getD l.b 0:=by
 rw [qg hl ho.a,qg hl ho.b]
 unfold hi lo
 repeat' split
 all_goals omega
theorem sY {n:Nat}:∀ (ls:List Ln) {h:List Int},h.length=n->(∀ l∈ls,l.Ok n) -> ∀ l∈ls,(ls.foldl lS h).getD l.a 0=(ls.foldl lS h).getD l.b 0
 | l :: ls,h,hl,ho,l',hm=>by
  rcases List.mem_cons.mp hm with rfl | hm
  ·have o:=ho l' List.mem_cons_self
   exact zT ls (by rw [sW];exact hl) o.a o.b (Fj hl o)
  ·exact sY ls (h:=lS h l) (by rw [sW];exact hl) (fun l' h'=>ho l' (List.mem_cons_of_mem _ h')) l' hm
theorem TY {n:Nat} {ls:List Ln} (hn:1<=n) (ho:∀ l∈ls,l.Ok n):J n ls=true↔Cn n ls:=by
 have g0:∀ x,x<n->((List.range n).map fun (i:Nat)=>(i:Int)).getD x 0=x:=fun x hx=>by
  rw [List.getD_eq_getElem?_getD,List.getElem?_map,List.getElem?_range hx];rfl
 have A:Alike n (pG n ls) (lG n ls):=pP ls ⟨by simp,by simp,fun x y _ _=>Iff.rfl,by rw [g0 0 (by omega)];rfl,fun x hx=>by rw [g0 x hx];omega⟩ ho
 rw [Wh hn ho,decide_eq_true_eq]
 constructor
 ·intro h c hc x hx
  have F:Fin n c (lG n ls):=Cr ls ⟨by simp,fun x y hx hy e=>by rw [g0 x hx,g0 y hy] at e;rw [show x=y by omega]⟩ ho hc
  refine F.e x 0 hx (by omega) ?_
  rw [h,List.getD_eq_getElem?_getD,List.getD_eq_getElem?_getD,List.getElem?_replicate,List.getElem?_replicate,if_pos hx,if_pos (by omega)]
 ·intro h
  have h1:=h (fun x=>(lG n ls).getD x 0) (sY ls (by simp) ho)
  apply List.ext_getElem?
  intro x
  by_cases hx:x<n
  ·have h4:=h1 x hx
   rw [A.z,List.getD_eq_getElem?_getD] at h4
   have q:=List.getElem?_eq_getElem (l:=lG n ls) (i:=x) (by rw [A.hl];exact hx)
   rw [q] at h4 ⊢
   rw [List.getElem?_replicate,if_pos hx]
   exact congrArg some h4
  ·rw [List.getElem?_eq_none (by rw [A.hl];omega),List.getElem?_eq_none (by rw [List.length_replicate];omega)]
theorem Ov {n:Nat} {ls:List Ln} (h:∀ p,1<=p->p<n -> ∃ l∈ls,∃ q,q<p∧(l.a=p∧l.b=q∨l.a=q∧l.b=p)):Cn n ls:=fun c hc=>by
 have:∀ x,∀ y,y<=x->y<n->c y=c 0:=by
  intro x
  induction x with
  | zero=>intro y hy _;rw [show y=0 by omega]
  | succ x ih=>
   intro y hy hyn
   by_cases e:y=0
   ·rw [e]
   ·obtain ⟨l,hl,q,hq,hpq⟩:=h y (by omega) hyn
    have h1:=hc l hl
    have h2:=ih q (by omega) (by omega)
    rcases hpq with ⟨e1,e2⟩ | ⟨e1,e2⟩
    ·rw [e1,e2] at h1;rw [h1,h2]
    ·rw [e1,e2] at h1;rw [← h1,h2]
 exact fun x hx=>this x x (Nat.le_refl _) hx
end Z
namespace L2
open PySem PySem.Spec PyProof.Rows
section
variable {K:PySem.W.Frag} {F:Addr->Prop} {H H':Hp}
theorem HR {p:Addr} {us:List V} {v:V} {d:D} {L:List Addr} (r:Rp K F H v d L) (hp:H p=some (.lst us)) (hk:∀ a o,a≠p->H a=some o->H' a=some o) (hF:¬ F p) (hL:p ∉ L):Rp K F H' v d L:=
 r.mono (fun _ h=>h) (fun a o e st=>hk a o (fun z=>by subst z;rw [hp] at e;cases e;exact st) e) (fun a o f e=>hk a o (fun z=>by subst z;exact hF f) e) fun a ha o e=>hk a o (fun z=>by subst z;exact hL ha) e
theorem CP {p:Addr} {us:List V} {vs:List V} {ds:List D} {L:List Addr} (r:Rps K F H vs ds L) (hp:H p=some (.lst us)) (hk:∀ a o,a≠p->H a=some o->H' a=some o) (hF:¬ F p) (hL:p ∉ L):Rps K F H' vs ds L:=
 r.mono (fun _ h=>h) (fun a o e st=>hk a o (fun z=>by subst z;rw [hp] at e;cases e;exact st) e) (fun a o f e=>hk a o (fun z=>by subst z;exact hF f) e) fun a ha o e=>hk a o (fun z=>by subst z;exact hL ha) e
theorem Rps.setIn:∀ {vs:List V} {ds:List D} {L:List Addr} {k:Nat} {es:List D},Rps K F H vs ds L->ds[k]? = some (.lst true es)->L.Nodup ->
  ∃ p us M,vs[k]? = some (.ref p)∧H p=some (.lst us)∧Rps K F H us es M∧p∈L∧p ∉ M ∧
   ∀ (H':Hp) (es':List D) (us':List V),(∀ a o,a≠p->H a=some o->H' a=some o)->H' p=some (.lst us')->Rps K F H' us' es' M -> ¬ F p->Rps K F H' vs (ds.set k (.lst true es')) L
 | _,_,_,k,es,.nil,e,_=>by simp at e
 | _,_,_,0,es,.cons (L:=L) (M:=M) r rs,e,nd=>by
  simp at e
  subst e
  cases r with
  | @own a us _ L0 ha ru=>
   have hn:=List.nodup_append.mp nd
   have h0:=List.nodup_cons.mp hn.1
   refine ⟨a,us,L0,rfl,ha,ru,by simp,h0.1,fun H' es' us' hk hp hr hF=>?_⟩
   refine .cons (L:=a :: L0) (.own hp hr) (CP rs ha hk hF fun z=>hn.2.2 a List.mem_cons_self a z rfl)
 | _,_,_,k+1,es,.cons (L:=L) (M:=M) r rs,e,nd=>by
  have hn:=List.nodup_append.mp nd
  obtain ⟨p,us,M',h1,h2,h3,h4,h5,h6⟩:=Rps.setIn (k:=k) rs (by simpa using e) hn.2.1
  refine ⟨p,us,M',by simpa using h1,h2,h3,List.mem_append_right _ h4,h5,fun H' es' us' hk hp hr hF=>?_⟩
  exact .cons (HR r h2 hk hF fun z=>hn.2.2 p z p h4 rfl) (h6 H' es' us' hk hp hr hF)
end
section
variable {X:Cx} {kp:Nat->Bool}
theorem pvn {x:Str} (i:Nat) {pos:Pos} (hN:X.N[i]? = some x:=by rfl) (hv:Vis X.env.scope x:=by first | exact Or.inl rfl | exact Or.inr (Or.inl rfl) | exact Or.inr (Or.inr rfl)) (hd:(x==("__debug__" : Str))=false:=by decide)
  (hcd:(x==("__classdict__" : Str))=false:=by decide):PE X (.Name x pos) (JV i):=nZ hN hv hd hcd
end
noncomputable def sFz (s:aZ):aZ:=fun ρ Q=>s ρ fun d ρ'=>Q d.fz ρ'
theorem Vr {X:Cx} {e:Expr} {s:aZ} (h:SE X e s):SE X e (sFz s):=
 h.wk fun σ H Q hh49=>by
  obtain ⟨F,ρ,Ls,R,Qd,w,q,k⟩:=hh49
  exact ⟨F,ρ,Ls,R,_,w,q,fun v H' d ρ' F' Ls' Ld r w' st q'=>k v H' d.fz ρ' (fun a=>F' a∨a∈Ld) Ls' [] (r.freeze (fun _ h=>.inl h) fun _ h=>.inr h) w'.give (st.trans Step.give) q'⟩
theorem Um (ρ : En) (Q:D->En->Prop) (s:aZ):sFz s ρ Q=s ρ fun d ρ'=>Q d.fz ρ':=rfl
noncomputable def SIt (t:Bool) (h:Heap) (i l:Addr) (k:Nat):Prop:=cond t (h.IsTupleIter i l k) (h.IsListIter i l k)
noncomputable def SSq (t:Bool) (h:Heap) (l:Addr) (xs:Array Value):Prop:=cond t (h.IsTuple l xs) (h.IsList l xs)
section
variable {prog:Program} {w:World} {A:Around} {E:Value->Shared->Prop} {s:Shared}
end
section
variable {prog:Program} {w:World} {A:Around} {E:Value->Shared->Prop} {s:Shared} {c U W a1 a2 l1 l2:Addr} {k1 k2:Nat} {xs ys:Array Value} {u v p1 p2:Value} {t1 t2:Bool}
end
noncomputable def Sq (t:Bool) (K:PySem.W.Frag) (H:Hp) (a:Addr) (xs:List V):Prop:=cond t (SqT K H a xs) (SqL K H a xs)
noncomputable def D.lt:D->Option (List D)
 | .lst _ xs=>some xs
 | .tup xs=>some xs
 | _=>none
end L2
namespace HT
open PySem PySem.Spec PyProof.Rows L2
section
variable {prog:Program} {w:World} {A:Around} {E:Value->Shared->Prop} {s:Shared}
end
end HT
namespace L2
open PySem PySem.Spec PyProof.Rows
section
variable {X:Cx} {e idx:Expr} {o oi:Opd} {pos p2:Pos}
end
noncomputable def Ea (K:PySem.W.Frag) (n:Nat) (f:bV):Sp:=fun vs H Q _=>vs.length=n ∧ ∃ F ds Ls R Qd,WS K F H (vs.map some) (ds.map some) Ls R∧f ds Qd ∧
 ∀ v H' r x F' Ls' Lr,Rp K F' H' v r Lr->WS K F' H' (vs.map some) (yQ n x) Ls' (Lr++R)->Step F H Ls F' H' Ls' Lr->Qd r x->Q v H'
noncomputable def jV:List AD->Option (List D)
 | []=>some []
 | .val d :: as=>match jV as with
  | some ds=>some (d :: ds)
  | none=>none
 | .nam _ :: _=>none
noncomputable def BJ (n:Nat) (f:bV) (os:List Opd):aZ:=fun ρ Q=>dD os ρ fun as ρ'=>∃ ds,jV as=some ds∧ds.length=n∧f ds fun r _=>Q r ρ'
section
variable {K:PySem.W.Frag} {F:Addr->Prop} {H:Hp} {σ : St}
theorem RpA.vals:∀ {vs:List V} {as:List AD} {La:List Addr} {ds:List D},RpA K F H σ vs as La->jV as=some ds->Rps K F H vs ds La
 | _,_,_,_,.nil,e=>by cases e;exact .nil
 | _,_,_,_,.val (d:=d) (as:=as) r rs,e=>by
  simp only [jV] at e
  cases h:jV as with
  | none=>rw [h] at e;cases e
  | some ds=>rw [h] at e;cases e;exact .cons r (RpA.vals rs h)
 | _,_,_,_,.nam _ _,e=>by cases e
theorem Rps.each:∀ {vs:List V} {ds:List D} {L:List Addr},Rps K F H vs ds L->L.Nodup -> ∃ Ls:Nat->List Addr,(∀ (i:Nat) d,ds[i]? = some d -> ∃ v,vs[i]? = some v∧Rp K F H v d (Ls i))∧(∀ i,ds.length<=i->Ls i=[])∧(∀ i a,a∈Ls i->a∈L)∧(∀ i,(Ls i).Nodup) ∧ ∀ i j a,a∈Ls i->a∈Ls j->i=j
 | _,_,_,.nil,_=>⟨fun _=>[],fun i d e=>by simp at e,fun _ _=>rfl,fun _ _ h=>by simp at h,fun _=>List.nodup_nil,fun _ _ _ h=>by simp at h⟩
 | _,_,_,.cons (L:=L) (M:=M) r rs,nd=>by
  obtain ⟨n1,n2,n3⟩:=List.nodup_append.mp nd
  obtain ⟨Ls,h1,h2,h3,h4,h5⟩:=Rps.each rs n2
  refine ⟨fun i=>match i with | 0=>L | i+1=>Ls i,fun i d e=>?_,fun i hi=>?_,fun i a m=>?_,fun i=>?_,fun i j a hi hj=>?_⟩
  ·cases i with
   | zero=>simp at e;subst e;exact ⟨_,rfl,r⟩
   | succ i=>exact h1 i d (by simpa using e)
  ·cases i with
   | zero=>simp at hi
   | succ i=>exact h2 i (by simpa using hi)
  ·cases i with
   | zero=>exact List.mem_append_left _ m
   | succ i=>exact List.mem_append_right _ (h3 i a m)
  ·cases i with
   | zero=>exact n1
   | succ i=>exact h4 i
  ·cases i with
   | zero=>
    cases j with
    | zero=>rfl
    | succ j=>exact absurd rfl (n3 a hi a (h3 j a hj))
   | succ i=>
    cases j with
    | zero=>exact absurd rfl (n3 a hj a (h3 i a hi))
    | succ j=>rw [h5 i j a hi hj]
theorem JW {n:Nat} {sf:bV} {os:List Opd} {E:XK} {Q:VK} (h:gM K (BJ n sf os) σ H Q):oE K os σ H fun vs H1=>Ea K n sf (vs++[]) H1 Q E:=by
 obtain ⟨F,ρ,Ls,R,Qd,w,q,kk⟩:=h
 refine ⟨F,ρ,Ls,R,_,w,q,fun vs H1 as ρ1 F1 Ls1 La r1 w1 s1 ⟨ds,e1,hn,q1⟩=>?_⟩
 show Ea K n sf (vs++[]) H1 Q E
 rw [List.append_nil]
 have rs:=r1.vals e1
 have hlen:vs.length=n:=by rw [rs.length];exact hn
 have hrd:=List.nodup_append.mp w1.rd
 obtain ⟨L0,h1,h2,h3,h4,h5⟩:=rs.each hrd.1
 have inR:∀ {i:Nat} {a:Addr},a∈Ls1 i->a∈gw ρ1.length [] Ls1:=fun {i a} m=>bY.mpr ⟨i,by
  by_cases hi:i < ρ1.length
  ·exact hi
  ·rw [w1.em i fun d e=>by rw [List.getElem?_eq_none (by omega)] at e;cases e] at m;simp at m,by simp,m⟩
 have noA:∀ {i:Nat} {a:Addr},a∈Ls1 i->a ∉ La:=fun {i a} m z=>w1.rj i a m (List.mem_append_left _ z)
 have w2:WS K F1 H1 (vs.map some) (ds.map some) L0 (gw ρ1.length [] Ls1++R):={
  len:=by rw [List.length_map,List.length_map,rs.length]
  sl:=fun i d e=>by
   rw [List.getElem?_map] at e
   obtain ⟨d',e',z⟩:=Option.map_eq_some_iff.mp e
   cases z
   obtain ⟨v,hv,r⟩:=h1 i d e'
   exact ⟨v,by rw [List.getElem?_map,hv];rfl,r⟩
  em:=fun i hi=>h2 i (by
   by_cases c:ds.length<=i
   ·exact c
   ·have hl:i<ds.length:=by omega
    exact absurd (show (ds.map some)[i]? = some (some ds[i]) from by simp [hl]) (hi _))
  nd:=h4
  dj:=h5
  rd:=by
   rw [List.nodup_append]
   refine ⟨jJ w1.nd w1.dj (List.nodup_range.filter _),hrd.2.1,fun a ha b hb e=>?_⟩
   subst e
   obtain ⟨i,_,_,hi⟩:=bY.mp ha
   exact w1.rj i a hi (List.mem_append_right _ hb)
  rj:=fun i a m z=>by
   have ma:=h3 i a m
   rcases List.mem_append.mp z with z | z
   ·obtain ⟨j,_,_,hj⟩:=bY.mp z
    exact noA hj ma
   ·exact hrd.2.2 a ma a z rfl
  nf:=fun i a m=>w1.nr a (List.mem_append_left _ (h3 i a m))
  nr:=fun a m z=>by
   rcases List.mem_append.mp m with m | m
   ·obtain ⟨i,_,_,mi⟩:=bY.mp m
    exact w1.nf i a mi z
   ·exact w1.nr a (List.mem_append_right _ m) z
  tr:=fun a m=>by
   rcases List.mem_append.mp m with m | m
   ·obtain ⟨i,_,_,mi⟩:=bY.mp m
    exact w1.own mi
   ·exact w1.tr a (List.mem_append_right _ m)
  ft:=w1.ft }
 refine ⟨hlen,_,_,_,_,_,w2,q1,fun v H' r x F' Ls' Lr rr wr sr qr=>?_⟩
 have keep:∀ a o,H1 a=some o->a ∉ La->H' a=some o:=fun a o e n=>sr.keep a o e fun i z=>n (h3 i a z)
 have lst:∀ a∈La,∃ xs:OL,H1 a=some xs.ho:=fun a m=>w1.tr a (List.mem_append_left _ m)
 have hLr:=List.nodup_append.mp wr.rd
 refine kk v H' r ρ1 F' Ls1 Lr rr ?_ ?_ qr
 ·exact {
   len:=w1.len
   sl:=fun i d e=>by
    obtain ⟨u,g1,g2⟩:=w1.sl i d e
    refine ⟨u,g1,g2.mono sr.mono (fun a o e st=>keep a o e fun z=>?_) (fun a o f e=>keep a o e fun z=>w1.nr a (List.mem_append_left _ z) f) fun a ha o e=>keep a o e (noA ha)⟩
    obtain ⟨xs,q⟩:=lst a z
    rw [e] at q
    cases q
    exact absurd st OL.no
   em:=w1.em
   nd:=w1.nd
   dj:=w1.dj
   rd:=by
    rw [List.nodup_append]
    exact ⟨hLr.1,hrd.2.1,fun a ha b hb e=>hLr.2.2 a ha b (List.mem_append_right _ hb) e⟩
   rj:=fun i a m z=>by
    rcases List.mem_append.mp z with z | z
    ·rcases sr.srcD a z with ⟨j,y⟩ | y
     ·exact noA m (h3 j a y)
     ·obtain ⟨xs,e⟩:=w1.own m;rw [y] at e;cases e
    ·exact w1.rj i a m (List.mem_append_right _ z)
   nf:=fun i a m z=>wr.nr a (List.mem_append_right _ (List.mem_append_left _ (inR m))) z
   nr:=fun a m z=>by
    rcases List.mem_append.mp m with m | m
    ·exact wr.nr a (List.mem_append_left _ m) z
    ·exact wr.nr a (List.mem_append_right _ (List.mem_append_right _ m)) z
   tr:=fun a m=>by
    rcases List.mem_append.mp m with m | m
    ·exact wr.tr a (List.mem_append_left _ m)
    ·exact wr.tr a (List.mem_append_right _ (List.mem_append_right _ m))
   ft:=wr.ft }
 ·refine ⟨fun a o e n=>keep a o (s1.keep a o e n) fun z=>?_,fun a h=>sr.mono a (s1.mono a h),s1.src,fun a m=>?_⟩
  ·rcases s1.srcD a z with ⟨j,y⟩ | y
   ·exact n j y
   ·rw [e] at y;cases y
  ·rcases sr.srcD a m with ⟨j,y⟩ | y
   ·exact s1.srcD a (h3 j a y)
   ·by_cases c:∃ j,a∈Ls j
    ·exact .inl c
    ·cases qa:H a with
     | none=>exact .inr rfl
     | some o=>rw [s1.keep a o qa fun i z=>c ⟨i,z⟩] at y;cases y
end
noncomputable def gP:List D->Option D
 | [.int i]=>if i.natAbs.log2<1920 then some (.str (toString i)) else none
 | _=>none
theorem gR {K:PySem.W.Frag}:bM K (fun xs H Q=>∃ i,xs=[.int i]∧i.natAbs.log2<1920∧Q (.str (toString i)) H) gP:=by
 intro F H vs ds f Q r e q
 unfold gP at e
 split at e
 ·split at e
  ·rename_i hz
   cases e
   obtain ⟨x,L,rfl,r1⟩:=r.one
   cases r1.isInt
   exact ⟨_,rfl,hz,q _ _ _ (.ofFlat rfl)⟩
  ·cases e
 ·cases e
noncomputable def D.strs:List D->Option (List Str)
 | []=>some []
 | .str x :: ds=>(D.strs ds).map (x :: ·)
 | _ :: _=>none
theorem Rps.strs {K:PySem.W.Frag} {F:Addr->Prop} {H:Hp}:∀ {vs:List V} {ds:List D} {L:List Addr} {xs:List Str},Rps K F H vs ds L->D.strs ds=some xs->vs=xs.map V.str
 | _,_,_,_,.nil,e=>by cases e;rfl
 | _,_,_,_,.cons (d:=d) (ds:=ds) r rs,e=>by
  cases d with
  | str x=>
   obtain ⟨ys,e1,rfl⟩:=Option.map_eq_some_iff.mp e
   rw [r.isStr,Rps.strs rs e1];rfl
  | _=>cases e
theorem qC:∀ {xs:List Str} {us:List Value},Vals (xs.map V.str) us -> ∃ l:List (Str×Tok),strValues l=us∧l.map (·.1)=xs
 | [],us,r=>by
  cases r
  exact ⟨[],rfl,rfl⟩
 | x :: xs,us,r=>by
  cases r with
  | cons r1 rs=>
   obtain ⟨t,rfl⟩:=r1
   obtain ⟨l,h1,h2⟩:=qC rs
   exact ⟨(x,t) :: l,by rw [← h1];rfl,by rw [List.map_cons,h2]⟩
noncomputable def rJoin (K:PySem.W.Frag):V->List V->Hp->VK->Prop:=fun x vs H Q=>∃ sep p ys,x = .str sep∧vs=[.ref p]∧SqL K H p (ys.map V.str)∧JoinOk sep ys=true∧Q (.str (Txt.join sep ys)) H
theorem CZ {X:Cx}:MtR X "str.join" (rJoin X.K):=by
 intro pins s σ H x xs v us Q I rx rs h
 obtain ⟨sep,p,ys,rfl,rfl,hq,hok,q⟩:=h
 obtain ⟨t,rfl⟩:=rx
 obtain ⟨u,rfl,r1⟩:=vals1 rs
 cases (show u=Value.ref p from r1)
 obtain ⟨its,rv,pl,_⟩:=I.list hq
 obtain ⟨l,h1,h2⟩:=qC rv
 subst h1
 exact PySem.SC.join pl.isList h2 hok fun t' k=>⟨.str _,H,I.tok _,⟨_,rfl⟩,q⟩
noncomputable def cL (sep:Str):List D->Option D
 | [.lst _ ds]=>(D.strs ds).bind fun ys=>if JoinOk sep ys=true then some (.str (Txt.join sep ys)) else none
 | _=>none
theorem vd {K:PySem.W.Frag} {sep:Str}:bM K (fun vs H Q=>rJoin K (.str sep) vs H Q) (cL sep):=by
 intro F H vs ds f Q r e q
 unfold cL at e
 split at e
 ·obtain ⟨ys,e1,e2⟩:=Option.bind_eq_some_iff.mp e
  split at e2
  ·rename_i hok
   cases e2
   obtain ⟨x,L,rfl,r1⟩:=r.one
   obtain ⟨a,vs,L1,rfl,ha,ra,_⟩:=r1.lst_at
   exact ⟨sep,a,ys,rfl,rfl,by rw [← ra.strs e1];exact .of ha,hok,q _ _ _ (.ofFlat rfl)⟩
  ·cases e2
 ·cases e
theorem iH {X:Cx} {sep:Str} {e:Expr} {o:Opd} {j} {p apos cpos:Pos} (ha:SA X [e] [o]) (hs:starEach [e] X.env=[(false,eval e X.env)]:=by rfl)
  (hbase:attributeBase (.Constant (.str sep) j p) "join" X.env (eval (.Constant (.str sep) j p) X.env)=eval (.Constant (.str sep) j p) X.env:=by rfl)
  (hfew:((backTo cpos (starEach [e] X.env)).all (fun x=>!x.1)&&(backToKw cpos (keywordEach [] X.env)).all (fun x=>x.1.isSome)
   && decide (([e]:List Expr).length+([]:List Keyword).length+(if ([]:List Keyword).isEmpty then 0 else 1)<30))=true:=by rfl)
  (hline:(apos.endLine==cpos.line)=true:=by rfl) :
  SE X (.Call (.Attribute (.Constant (.str sep) j p) "join" apos) [e] [] cpos) (sDo (cL sep) [o]):=
 (vC PySem.F.plainAttrs_str PySem.F.slot_str_join PySem.F.type_str_join CZ Bu ha hbase hfew hline hs rfl).wk fun σ H Q h=>⟨rfl,gK vd h⟩
theorem empty_app (a:Str):Str.empty++a=a:=by
 obtain ⟨c⟩:=a
 show (⟨#[]++c⟩:Str)=⟨c⟩
 simp
theorem JH {X:Cx} {kp:Nat->Bool} {sts:List Stmt}:SL X kp sts jt:=fun pins s σ H D I h=>by
 obtain ⟨F,ρ,Ls,R,E,w,q,p⟩:=h
 exact q.elim
theorem Jw {X:Cx} {x:Str} {i:Int} {pos:Pos} (hg:Gl X x) (hm:∃ t,X.mg x=some (.int i t)) (hd:(x==("__debug__" : Str))=false:=by decide):SE X (.Name x pos) (sC (.int i)):=by
 obtain ⟨t,hm⟩:=hm
 exact (pB (v:=.int i) hg hm ⟨t,rfl⟩ hd).wk fun _ _ _ h=>gA rfl h
section
variable {X:Cx} {kp:Nat->Bool}
end
section
variable {prog:Program} {w:World} {A:Around} {R:Result->Shared->Prop} {s:Shared}
noncomputable abbrev two (elt tg iter:Expr) (ifs:List Expr) (tg1 iter1:Expr) (ifs1:List Expr) (scope:Scope) (pos:Pos):Expr:=.ListComp elt [⟨tg,iter,ifs,0⟩,⟨tg1,iter1,ifs1,0⟩] scope pos
end
section
variable {X:Cx} {pins:List (Addr×Obj)} {σ : St} {H₂ : Hp} {s₂ : Shared} {scope:Scope} {own:List Str} {fr:List Nat} {cl:List (Str×Addr)} {fp:List Addr}
 {tg elt iter tg1 iter1:Expr} {ifs ifs1:List Expr} {pos:Pos} {J:It} {it:Addr} {tn:Nat->Heap->Prop} {g g1:TG} {tt tt1:TT} {te:TE} {wi1:TI} {RR:Value->Addr->Result->Shared->Prop} {E:Value->Shared->Prop} {Fin:List V->Hp->Prop}
end
section
variable {X:Cx} {pins:List (Addr×Obj)} {σ : St} {H₂ : Hp} {s₂ : Shared} {scope:Scope} {own:List Str} {fr:List Nat} {cl:List (Str×Addr)} {fp:List Addr}
 {tg elt iter tg1 iter1:Expr} {ifs ifs1:List Expr} {pos:Pos} {J:It} {it:Addr} {tn:Nat->Heap->Prop} {g g1:TG} {tt tt1:TT} {te:TE} {wi1:TI} {RR:Value->Addr->Result->Shared->Prop} {E:Value->Shared->Prop} {Fin:List V->Hp->Prop}
end
section
variable {X:Cx} {scope:Scope} {own:List Str} {fr:List Nat} {tg elt iter tg1 iter1:Expr} {ifs ifs1:List Expr} {pos:Pos} {wi wi1:TI} {g g1:TG} {tt tt1:TT} {te:TE}
end
section
variable {X:Cx} {scope:Scope} {own:List Str} {fr:List Nat} {tg elt iter tg1 iter1:Expr} {ifs ifs1:List Expr} {pos:Pos} {si si1:lK} {g g1:dY} {t t1:eV} {el:aZ}
end
noncomputable def ye (f:bV):bV:=fun ds Q=>D.shs ds.tail=true∧f ds Q
noncomputable def qp (n:Nat) (f:bV) (os:List Opd):aZ:=BJ n (ye f) os
theorem Oh {K:PySem.W.Frag} {n:Nat} {f:bV} {vs:List V} {H:Hp} {Q:VK} {E:XK} (h:Ea K n (ye f) vs H Q E):aW K n true f vs H Q E:=by
 obtain ⟨hl,F,ds,Ls,R,Qd,ws,⟨hs,q⟩,fin⟩:=h
 refine ⟨hl,F,ds,Ls,R,Qd,ws,fun j hj=>?_,q,fin⟩
 have hj:=hj rfl
 by_cases e:∃ d,(ds.map some)[j]? = some (some d)
 ·obtain ⟨d,e⟩:=e
  obtain ⟨v,_,r⟩:=ws.sl j d e
  refine r.sh_nil ?_
  rw [List.getElem?_map] at e
  obtain ⟨d',e',z⟩:=Option.map_eq_some_iff.mp e
  cases z
  cases ds with
  | nil=>simp at e'
  | cons d0 ds=>
   cases j with
   | zero=>exact absurd rfl hj
   | succ j=>
    rw [D.shs_eq,List.all_eq_true] at hs
    exact hs d (List.mem_of_getElem? (by simpa using e'))
 ·exact ws.em j fun d z=>e ⟨d,z⟩
theorem SN {X:Cx} {x:Str} {k n:Nat} {ps:List Str} {sf:bV} {e:Expr} {es:List Expr} {os:List Opd} {p pos:Pos} (h:Prm X.prog X.w X.K X.mg X.base x k ps (aW X.K n true sf)) (hr:Room k X.A) (hg:Gl X x) (ha:SA X (e :: es) os)
  (hdb:(x==("__debug__" : Str))=false:=by decide) (he:starEach (e :: es) X.env=(false,eval e X.env) :: starEach es X.env:=by rfl) (hpl:(backTo pos (starEach es X.env)).any (·.1)=false:=by rfl) :
  SE X (.Call (.Name x p) (e :: es) [] pos) (qp n sf os):=by
 obtain ⟨f,fd,F,b,g,kp⟩:=h
 refine (xf F hr hg g kp b .nil Do ha hdb he hpl).wk fun σ H Q h=>?_
 have h1:oE X.K os σ H fun vs H1=>Ea X.K n (ye sf) (vs++[]) H1 Q (fun _ _ _=>False):=JW h
 obtain ⟨F,ρ,Ls,R,Qd,w,q,kk⟩:=h1
 exact ⟨F,ρ,Ls,R,Qd,w,q,fun vs H' as ρ' F' Ls' La a1 a2 a3 a4=>Oh (kk vs H' as ρ' F' Ls' La a1 a2 a3 a4)⟩
section
variable {X:Cx}
end
theorem Hh (ρ : En) (Q:D->En->Prop) (n:Nat) (f:bV) (os:List Opd):qp n f os ρ Q=dD os ρ fun as ρ'=>aJ (jV as) fun ds=>dG (ds.length=n) (dG (D.shs ds.tail=true) (rN f ds fun r _=>Q r ρ')):=by
 simp only [qp,BJ,ye,aJ,dG,rN]
theorem Af:jV []=some []:=rfl
theorem yd (d:D) (as:List AD):jV (.val d :: as)=rP (some d) (jV as):=by
 rw [jV];cases jV as <;> rfl
end L2
namespace HT
open PySem PySem.Spec PyProof.Rows L2 Builtin
end HT
namespace L2
open PySem PySem.Spec PyProof.Rows
noncomputable def notStar:Expr->Bool
 | .Starred .. => false
 | _=>true
theorem Oj {e:Expr} (h:notStar e=true) (es:List Expr) (env:Env):starEach (e :: es) env=(false,eval e env) :: starEach es env:=by
 cases e <;> first | rfl | (simp [notStar] at h)
structure SAs (X:Cx) (es:List Expr) (os:List Opd):Prop where
 h:SA X es os
theorem nG {X:Cx}:SAs X [] []:=⟨ak⟩
theorem bO {X:Cx} {e:Expr} {es:List Expr} {o:Opd} {os:List Opd} (hn:notStar e=true) (h:SO X e o) (hs:SAs X es os):SAs X (e :: es) (o :: os):=⟨aj h hs.h (Oj hn es X.env)⟩
theorem NZ {X:Cx} {es:List Expr} {os:List Opd} {pos:Pos} (h:SAs X es os):SE X (.List es pos) (eE os):=gq h.h
theorem xP {X:Cx} {es:List Expr} {os:List Opd} {pos:Pos} {x1} (h:SAs X es os):SE X (.Tuple es x1 pos) (gb os):=iI h.h
structure SEs (X:Cx) (e:Expr) (s:aZ):Prop where
 h:SE X e s
theorem DR {X:Cx} {es:List Expr} {os:List Opd} {pos:Pos} {x1} (h:SAs X es os):SEs X (.Tuple es x1 pos) (gb os):=⟨iI h.h⟩
theorem vD {X:Cx} {e:Expr} {es:List Expr} {s:aZ} {os:List Opd} (hn:notStar e=true) (h:SEs X e s) (hs:SAs X es os):SAs X (e :: es) (.val s :: os):=bO hn (aa h.h) hs
end L2
namespace Z
open PySem L2
end Z
namespace Z
open PySem L2 TM PyProof.Rows
mutual
noncomputable def pn (m:Nat):D->Bool
 | .scr _=>false
 | .ty _=>false
 | .xc _ _=>false
 | .fn _=>false
 | .dct _ _ _=>false
 | .tup ds=>decide (ds.length<=m)&&pns m ds
 | .lst _ ds=>decide (ds.length<=m)&&pns m ds
 | .non=>true
 | .bl _=>true
 | .int _=>true
 | .str _=>true
noncomputable def pns (m:Nat):List D->Bool
 | []=>true
 | d :: ds=>pn m d&&pns m ds
end
theorem rE (m:Nat):∀ ds:List D,pns m ds=true ↔ ∀ d∈ds,pn m d=true
 | []=>by simp [pns]
 | d :: ds=>by simp [pns,rE m ds]
structure Th (m:Nat) (d:D):Prop where
 s:d.sh=true
 p:pn m d=true
theorem km (ds:List D):D.shs ds=true ↔ ∀ d∈ds,d.sh=true:=by rw [D.shs_eq,List.all_eq_true]
theorem Th.tup {m:Nat} {ds:List D} (h:∀ d∈ds,Th m d) (hl:ds.length<=m):Th m (.tup ds):=
 ⟨by rw [D.sh];exact (km ds).mpr fun d hd=>(h d hd).s,by rw [pn,decide_eq_true hl,Bool.true_and];exact (rE m ds).mpr fun d hd=>(h d hd).p⟩
theorem Th.lst {m:Nat} {ds:List D} (h:∀ d∈ds,Th m d) (hl:ds.length<=m):Th m (.lst false ds):=
 ⟨by rw [D.sh,(km ds).mpr fun d hd=>(h d hd).s];rfl,by rw [pn,decide_eq_true hl,Bool.true_and];exact (rE m ds).mpr fun d hd=>(h d hd).p⟩
theorem Th.of_tup {m:Nat} {ds:List D} (h:Th m (.tup ds)):(∀ d∈ds,Th m d)∧ds.length<=m:=by
 have h1:=h.s
 have h2:=h.p
 rw [D.sh] at h1
 rw [pn,Bool.and_eq_true] at h2
 exact ⟨fun d hd=>⟨(km ds).mp h1 d hd,(rE m ds).mp h2.2 d hd⟩,of_decide_eq_true h2.1⟩
mutual
theorem Dq {m k:Nat} (hmk:m<=k):∀ d:D,pn m d=true->pn k d=true
 | .scr _,h=>by simp [pn] at h
 | .ty _,h=>by simp [pn] at h
 | .xc _ _,h=>by simp [pn] at h
 | .fn _,h=>by simp [pn] at h
 | .dct _ _ _,h=>by simp [pn] at h
 | .tup ds,h=>by
  rw [pn,Bool.and_eq_true] at h ⊢
  exact ⟨decide_eq_true (by have:=of_decide_eq_true h.1;omega),tG hmk ds h.2⟩
 | .lst _ ds,h=>by
  rw [pn,Bool.and_eq_true] at h ⊢
  exact ⟨decide_eq_true (by have:=of_decide_eq_true h.1;omega),tG hmk ds h.2⟩
 | .non,_=>by simp [pn]
 | .bl _,_=>by simp [pn]
 | .int _,_=>by simp [pn]
 | .str _,_=>by simp [pn]
theorem tG {m k:Nat} (hmk:m<=k):∀ ds:List D,pns m ds=true->pns k ds=true
 | [],_=>by simp [pns]
 | d :: ds,h=>by
  rw [pns,Bool.and_eq_true] at h ⊢
  exact ⟨Dq hmk d h.1,tG hmk ds h.2⟩
end
theorem Th.mono {m k:Nat} {d:D} (h:Th m d) (hk:m<=k):Th k d:=⟨h.s,Dq hk d h.p⟩
theorem Th.int (m:Nat) (i:Int):Th m (.int i):=⟨rfl,by simp [pn]⟩
theorem Th.bl (m:Nat) (b:Bool):Th m (.bl b):=⟨rfl,by simp [pn]⟩
theorem Th.non (m:Nat):Th m .non:=⟨rfl,by simp [pn]⟩
theorem Th.str (m:Nat) (x:Str):Th m (.str x):=⟨rfl,by simp [pn]⟩
theorem Th.fz {m:Nat} {d:D} (h:Th m d):d.fz=d:=D.sh_fz _ h.s
noncomputable def dZ (d:D) (lo hi:Int):Bool:=match d with
 | .tup ds=>decide (lo<=(ds.length:Int))&&decide ((ds.length:Int)<=hi)
 | _=>false
noncomputable def aA (d:D) (lo hi:Int):Bool:=match d with
 | .int i=>decide (lo<=i)&&decide (i<=hi)
 | _=>false
theorem yS {m:Nat} {d:D} (h:Th m d) (hn:∀ ds,d ≠ .tup ds):eX [d,.ty "tuple"]=some (.bl false):=by
 have hp:=h.p
 cases d with
 | scr _=>simp [pn] at hp
 | ty _=>simp [pn] at hp
 | xc _ _=>simp [pn] at hp
 | fn _=>simp [pn] at hp
 | dct _ _ _=>simp [pn] at hp
 | tup ds=>exact absurd rfl (hn ds)
 | _=>rfl
theorem Hz {m:Nat} {d:D} (h:Th m d) (hn:∀ i,d ≠ .int i):(eX [d,.ty "int"]=some (.bl false)) ∨ ∃ c,d = .bl c:=by
 have hp:=h.p
 cases d with
 | scr _=>simp [pn] at hp
 | ty _=>simp [pn] at hp
 | xc _ _=>simp [pn] at hp
 | fn _=>simp [pn] at hp
 | dct _ _ _=>simp [pn] at hp
 | int i=>exact absurd rfl (hn i)
 | bl c=>exact .inr ⟨c,rfl⟩
 | _=>exact .inl rfl
theorem Ma (c:Bool):eX [.bl c,.ty "int"]=some (.bl true):=rfl
theorem LR (c:Bool):eX [.bl c,.ty "bool"]=some (.bl true):=rfl
theorem Gs {m:Nat} {d:D} (h:Th m d) (hn:∀ i,d ≠ .int i) {Q:D->Option D->Prop} (q:Q (.bl false) none):cz [d] Q:=by
 rcases Hz h hn with e | ⟨c,rfl⟩
 ·dsimp? only [cz,e]
  exact q
 ·dsimp? only [cz,Ma,LR]
  exact q
theorem Hv (d:D):(∃ i,d = .int i) ∨ ∀ i,d ≠ .int i:=by
 cases d with
 | int i=>exact .inl ⟨i,rfl⟩
 | _=>exact .inr fun i z=>by cases z
theorem jU (d:D):(∃ ds,d = .tup ds) ∨ ∀ ds,d ≠ .tup ds:=by
 cases d with
 | tup ds=>exact .inl ⟨ds,rfl⟩
 | _=>exact .inr fun i z=>by cases z
theorem ug {d:D} (hn:∀ i,d ≠ .int i) (lo hi:Int):aA d lo hi=false:=by
 cases d with
 | int i=>exact absurd rfl (hn i)
 | _=>rfl
theorem gB {d:D} (hn:∀ ds,d ≠ .tup ds) (lo hi:Int):dZ d lo hi=false:=by
 cases d with
 | tup i=>exact absurd rfl (hn i)
 | _=>rfl
theorem bj {m:Nat} {d:D} (h:Th m d) {lo hi:Int} {Q:D->Option D->Prop} (q:Q (.bl (aA d lo hi)) none):aK [d,.int lo,.int hi] Q:=by
 rcases Hv d with ⟨i,rfl⟩ | hn
 ·exact oY q
 ·rw [ug hn] at q
  dsimp? only [aK,h.fz]
  refine Gs h hn ?_
  dsimp? only
  exact q
theorem fO {m:Nat} {d:D} (h:Th m d) {lo hi:Int} {Q:D->Option D->Prop} (q:Q (.bl (dZ d lo hi)) none):bF [d,.int lo,.int hi] Q:=by
 rcases jU d with ⟨ds,rfl⟩ | hn
 ·exact vh q
 ·rw [gB hn] at q
  dsimp? only [bF,yS h hn]
  exact q
noncomputable def DQ:D->D->Bool
 | .int i,.int j=>i==j
 | _,_=>false
noncomputable def lA (n:Int):D->Bool
 | .tup [a,b,c,e]=>aA a 0 (n - 1)&&(aA b 0 (n - 1)&&(!DQ a b&&(aA c 1 9&&aA e 0 99)))
 | _=>false
theorem dg {d:D} {lo hi:Int} (h:aA d lo hi=true):∃ i,d = .int i∧lo<=i∧i<=hi:=by
 rcases Hv d with ⟨i,rfl⟩ | hn
 ·have h':(decide (lo<=i)&&decide (i<=hi))=true:=h
  rw [Bool.and_eq_true] at h'
  exact ⟨i,rfl,of_decide_eq_true h'.1,of_decide_eq_true h'.2⟩
 ·rw [ug hn] at h;cases h
theorem wj (d:D):(∃ a b c e,d = .tup [a,b,c,e])∨(∃ ds,d = .tup ds∧ds.length≠4) ∨ ∀ ds,d ≠ .tup ds:=by
 rcases jU d with ⟨ds,rfl⟩ | hn
 ·by_cases h:ds.length=4
  ·match ds,h with
   | [a,b,c,e],_=>exact .inl ⟨a,b,c,e,rfl⟩
  ·exact .inr (.inl ⟨ds,rfl,h⟩)
 ·exact .inr (.inr hn)
theorem vz {n:Int} {ds:List D} (h:ds.length≠4):lA n (.tup ds)=false:=by
 unfold lA
 split
 ·rename_i z;cases z;exact absurd rfl h
 ·rfl
theorem vA {n:Int} {d:D} (h:∀ ds,d ≠ .tup ds):lA n d=false:=by
 unfold lA
 split
 ·exact absurd rfl (h _)
 ·rfl
theorem zP {ds:List D} (h:ds.length≠4):dZ (.tup ds) 4 4=false:=by
 show (decide ((4:Int)<=(ds.length:Int))&&decide ((ds.length:Int)<=4))=false
 by_cases c:(4:Int)<=(ds.length:Int)
 ·rw [decide_eq_true c,Bool.true_and];exact decide_eq_false (by omega)
 ·rw [decide_eq_false c];rfl
theorem Ie {m:Nat} {n:Int} {d:D} (h:Th m d) {Q:D->Option D->Prop} (q:Q (.bl (lA n d)) none):iT [d,.int n] Q:=by
 have hs:=h.s
 dsimp? only [iT,h.fz]
 refine fO h ?_
 rcases wj d with ⟨a,b,c,e,rfl⟩ | ⟨ds,rfl,hd⟩ | hn
 ·obtain ⟨ht,_⟩:=h.of_tup
  have ha:=ht a (by simp);have hb:=ht b (by simp);have hc:=ht c (by simp);have he:=ht e (by simp)
  have er:dZ (.tup [a,b,c,e]) 4 4=true:=rfl
  dsimp? only [er,hs,ha.s,hb.s,hc.s,he.s,ha.fz,hb.fz,hc.fz,he.fz]
  refine bj ha ?_
  have q':Q (.bl (aA a 0 (n - 1)&&(aA b 0 (n - 1)&&(!DQ a b&&(aA c 1 9&&aA e 0 99))))) none:=q
  cases w1:aA a 0 (n - 1) with
  | false=>
   rw [w1] at q'
   (try dsimp? only)
   exact q'
  | true=>
   rw [w1,Bool.true_and] at q'
   dsimp? only [hb.fz,hs,ha.s,hb.s,hc.s,he.s]
   refine bj hb ?_
   cases w2:aA b 0 (n - 1) with
   | false=>
    rw [w2] at q'
    (try dsimp? only)
    exact q'
   | true=>
    rw [w2,Bool.true_and] at q'
    obtain ⟨i,rfl,_⟩:=dg w1
    obtain ⟨j,rfl,_⟩:=dg w2
    (try dsimp? only)
    have q2:Q (.bl (!(i==j)&&(aA c 1 9&&aA e 0 99))) none:=q'
    refine qb (fun hc'=>?_) fun hc'=>?_
    ·rw [hc'] at q2
     (try dsimp? only)
     exact q2
    ·rw [hc',Bool.not_false,Bool.true_and] at q2
     dsimp? only [hc.fz]
     refine bj hc ?_
     cases w3:aA c 1 9 with
     | false=>
      rw [w3] at q2
      (try dsimp? only)
      exact q2
     | true=>
      rw [w3,Bool.true_and] at q2
      dsimp? only [he.fz,hc.s,he.s]
      refine bj he ?_
      (try dsimp? only)
      exact q2
 ·rw [vz hd] at q
  dsimp? only [zP hd]
  exact q
 ·rw [vA hn] at q
  dsimp? only [gB hn]
  exact q
structure Wk where
 p:Nat
 a:Nat
 b:Nat
 ps:List (Nat×Nat)
 c:Nat
 g:Nat
 e:Nat
 f:Bool
noncomputable def pcD (x:Nat×Nat):D:=.tup [.int (x.1:Int),.int (x.2:Int)]
noncomputable def Wk.d (w:Wk):D:=.tup [.int (w.p:Int),.int (w.a:Int),.int (w.b:Int),.tup (w.ps.map pcD),.int (w.c:Int),.int (w.g:Int),.int (w.e:Int),.bl w.f]
structure Wt where
 p:Nat
 s:Nat
 w:Nat
noncomputable def Wt.d (t:Wt):D:=.tup [.int (t.p:Int),.int (t.s:Int),.int (t.w:Int)]
structure Sr where
 p:Nat
 a:Nat
 b:Nat
 c:Nat
 g:Nat
noncomputable def stD:Option Sr->D
 | none=>.non
 | some s=>.tup [.int (s.p:Int),.int (s.a:Int),.int (s.b:Int),.int (s.c:Int),.int (s.g:Int)]
theorem tV (l:List (Nat×Nat)):D.shs (l.map pcD)=true:=aP pcD (fun _=>rfl) l
theorem Qu (l:List (Nat×Nat)):D.fzs (l.map pcD)=l.map pcD:=jA pcD (fun _=>rfl) l
theorem Qo (l:List (Nat×Nat)):D.cleans (l.map pcD)=true:=gD pcD (fun _=>rfl) l
theorem Vw (w:Wk):w.d.sh=true:=by show (true&&(true&&(true&&(D.shs (w.ps.map pcD)&&(true&&(true&&(true&&(true&&true))))))))=true;rw [tV];rfl
theorem Ph (w:Wk):w.d.clean=true:=by show (true&&(true&&(true&&(D.cleans (w.ps.map pcD)&&(true&&(true&&(true&&(true&&true))))))))=true;rw [Qo];rfl
theorem xV (l:List Wk):D.shs (l.map Wk.d)=true:=aP _ Vw l
theorem KC (l:List Wk):D.cleans (l.map Wk.d)=true:=gD _ Ph l
theorem DX (l:List Wt):D.shs (l.map Wt.d)=true:=aP _ (fun _=>rfl) l
theorem KD (l:List Wt):D.cleans (l.map Wt.d)=true:=gD _ (fun _=>rfl) l
noncomputable def hrD (l:List Wt):D:=.tup (l.map Wt.d)
theorem Vu (l:List Wt):(hrD l).sh=true:=DX l
theorem Pb (l:List Wt):(hrD l).clean=true:=KD l
theorem Od (l:List (List Wt)):D.shs (l.map hrD)=true:=aP _ Vu l
theorem Kz (l:List (List Wt)):D.cleans (l.map hrD)=true:=gD _ Pb l
theorem Qc (o:Option Sr):(stD o).sh=true:=by cases o <;> rfl
theorem Pg (o:Option Sr):(stD o).clean=true:=by cases o <;> rfl
structure Flat (ds:List D):Prop where
 s:D.shs ds=true
 c:D.cleans ds=true
 l:ds.length<=10
theorem pk3 (x y z:Int):∀ r:Nat,r<3 -> ∃ v,(v=x∨v=y∨v=z)∧dIx [.lst true [.int x,.int y,.int z],.int (r:Int)]=some (.int v)
 | 0,_=>⟨x,.inl rfl,rfl⟩
 | 1,_=>⟨y,.inr (.inl rfl),rfl⟩
 | 2,_=>⟨z,.inr (.inr rfl),rfl⟩
 | r+3,h=>by omega
theorem pk4 (x y z u:Int):∀ r:Nat,r<4 -> ∃ v,(v=x∨v=y∨v=z∨v=u)∧dIx [.lst true [.int x,.int y,.int z,.int u],.int (r:Int)]=some (.int v)
 | 0,_=>⟨x,.inl rfl,rfl⟩
 | 1,_=>⟨y,.inr (.inl rfl),rfl⟩
 | 2,_=>⟨z,.inr (.inr (.inl rfl)),rfl⟩
 | 3,_=>⟨u,.inr (.inr (.inr rfl)),rfl⟩
 | r+4,h=>by omega
theorem aV {bag:D} {m:Int} (hB:Bag bag) (hm:0<m) {Q:D->Option D->Prop} (h:∀ (bag':D) (r:Nat),Bag bag'->(r:Int)<m->Q (.int r) (some bag')):ao [bag,.int m] Q:=by
 obtain ⟨k,rfl⟩:∃ k:Nat,m=(k:Int):=⟨m.toNat,by omega⟩
 exact yX hB (by omega) fun bag' r hB' hr=>h bag' r hB' (by omega)
theorem Mz {ds:List D} {d:D} (h:ds.length<=100):cG ds [d]=some (ds++[d],.non):=sZ _ _ (by rw [sizeLine_eq];omega)
structure Lns (ds:List D) (m:Nat):Prop where
 s:∀ d∈ds,d.sh=true
 c:∀ d∈ds,d.clean=true
 l:ds.length<=m
theorem wG {α : Type} (g : α -> D) {P : α -> Prop}:∀ {ds:List D},(∀ (i:Nat) d,ds[i]? = some d -> ∃ q,P q∧d=g q) -> ∃ qs:List α,ds=qs.map g ∧ ∀ q∈qs,P q
 | [],_=>⟨[],rfl,fun q h=>by simp at h⟩
 | d :: ds,h=>by
  obtain ⟨q,hq,rfl⟩:=h 0 d rfl
  obtain ⟨qs,rfl,hqs⟩:=wG g (ds:=ds) fun i d e=>h (i+1) d (by simpa using e)
  exact ⟨q :: qs,rfl,fun x hx=>by
   rcases List.mem_cons.mp hx with rfl | hx
   ·exact hq
   ·exact hqs x hx⟩
structure HouseOk (n:Nat) (ds:List D) (ws:List Wk) (o:Option Sr) (hs:List (List Wt)):Prop where
 n1:1<=n
 n4:n<=4
 d:Lns ds 20
 wl:ws.length<=3
 w:∀ w∈ws,w.p<n∧w.a<=20∧w.ps.length<=2∧w.g<=2∧w.e<=2∧w.c<=100
 o:∀ s,o=some s->s.p<n∧s.c<=20∧s.g<=20∧s.b<=s.a
 h1:1<=hs.length
 h3:hs.length<=3
 h:∀ l∈hs,l.length<=3 ∧ ∀ t∈l,t.p<n∧t.s<=30∧t.w<=100
end Z
namespace L2
open PySem PySem.Spec PyProof.Rows
section
variable {κ : Type} [DecidableEq κ]
noncomputable def ud (kvs:List (κ × V)) (k : κ):Option V:=(kvs.find? fun kv=>decide (kv.1=k)).map (·.2)
noncomputable def putK (kvs:List (κ × V)) (k : κ) (v:V):List (κ × V):=
 if (kvs.any fun kv=>decide (kv.1=k))=true then kvs.map (fun kv=>if kv.1=k then (kv.1,v) else kv) else kvs++[(k,v)]
theorem pO {p : κ × V} {r:List (κ × V)} {k : κ} (e:p.1=k):ud (p :: r) k=some p.2:=by simp [ud,List.find?_cons,e]
theorem pN {p : κ × V} {r:List (κ × V)} {k : κ} (e:¬ p.1=k):ud (p :: r) k=ud r k:=by simp [ud,List.find?_cons,e]
theorem ue (k : κ):∀ kvs:List (κ × V),(kvs.any fun kv=>decide (kv.1=k))=(ud kvs k).isSome
 | []=>rfl
 | p :: r=>by
  rw [List.any_cons]
  by_cases e:p.1=k
  ·simp only [pO e,decide_eq_true e,Bool.true_or,Option.isSome_some]
  ·rw [pN e,decide_eq_false e,Bool.false_or];exact ue k r
theorem zb (kvs:List (κ × V)) (k : κ) (v:V):(putK kvs k v).length<=kvs.length+1:=by
 unfold putK
 split
 ·rw [List.length_map];omega
 ·rw [List.length_append,List.length_cons,List.length_nil];omega
theorem KV.val {kvs:List (κ × V)} {vs:List (κ × Value)} (r:KV kvs vs) (k : κ):vN (ud kvs k) (valueAt vs k):=by
 unfold KV at r
 induction r with
 | nil=>exact True.intro
 | @cons p q ps qs h t ih=>
  obtain ⟨h1,h2⟩:=h
  by_cases e:p.1=k
  ·have e':q.1=k:=h1.symm.trans e
   have b:valueAt (q :: qs) k=some q.2:=by simp [valueAt,List.find?_cons,e']
   rw [pO e,b];exact h2
  ·have e':¬ q.1=k:=fun z=>e (h1.trans z)
   have b:valueAt (q :: qs) k=valueAt qs k:=by simp [valueAt,List.find?_cons,e']
   rw [pN e,b];exact ih
theorem KV.any {kvs:List (κ × V)} {vs:List (κ × Value)} (r:KV kvs vs) (k : κ):(kvs.any fun kv=>decide (kv.1=k))=vs.any fun kv=>decide (kv.1=k):=by
 unfold KV at r
 induction r with
 | nil=>rfl
 | cons h t ih=>rw [List.any_cons,List.any_cons,ih,h.1]
theorem KV.repl {kvs:List (κ × V)} {vs:List (κ × Value)} (r:KV kvs vs) (k : κ) {y:V} {u:Value} (ry:RelV y u) :
  KV (kvs.map fun kv=>if kv.1=k then (kv.1,y) else kv) (vs.map fun kv=>if kv.1=k then (kv.1,u) else kv):=by
 unfold KV at r ⊢
 induction r with
 | nil=>exact .nil
 | @cons p q ps qs h t ih=>
  rw [List.map_cons,List.map_cons]
  refine .cons ?_ ih
  obtain ⟨h1,h2⟩:=h
  by_cases e:p.1=k
  ·rw [if_pos e,if_pos (h1.symm.trans e)];exact ⟨h1,ry⟩
  ·rw [if_neg e,if_neg (fun z=>e (h1.trans z))];exact ⟨h1,h2⟩
theorem KV.put {kvs:List (κ × V)} {vs:List (κ × Value)} (r:KV kvs vs) (k : κ) {y:V} {u:Value} (ry:RelV y u):KV (putK kvs k y) (stored vs k u):=by
 unfold putK stored
 rw [r.any k]
 by_cases e:(vs.any fun kv=>decide (kv.1=k))=true
 ·rw [if_pos e,if_pos e];exact r.repl k ry
 ·rw [if_neg e,if_neg e];exact Paired.snoc r ⟨rfl,ry⟩
theorem KV.length {kvs:List (κ × V)} {vs:List (κ × Value)} (r:KV kvs vs):kvs.length=vs.length:=Paired.length r
end
theorem Pr {P:Program} {w:World} {k:Key} {u:Value} (r:RelV (kV k) u):(dB P w).is k u=true:=by
 cases k with
 | inl i=>obtain ⟨t,e⟩:=(show ∃ t,u=Value.int i t from r);subst e;exact zf P w i t
 | inr x=>obtain ⟨t,e⟩:=(show ∃ t,u=Value.str x t from r);subst e;exact mC P w x t
section
variable {P:Program} {w:World} {H:Hp} {h:Heap} {a:Addr}
theorem Vj {u:HO} (ok:HOk P w H h) (e:Rd H a u):fP P w H h a u:=e.ok ok
theorem Ul {kvs:List (Key×V)} (ok:HOk P w H h) (e:Rd H a (.dK kvs)):kvs.length<=sizeLine∧(a==sysModules)=false ∧ ∃ vs,KV kvs vs∧h.DictOf (dB P w) a vs:=
 show fP P w H h a (.dK kvs) from Vj ok e
theorem Uk {kvs:List (Key×V)} (ok:HOk P w H h) (e:H a=some (.dK kvs)):kvs.length<=sizeLine∧(a==sysModules)=false ∧ ∃ vs,KV kvs vs∧h.DictOf (dB P w) a vs:=Ul ok (.inl e)
end
section
variable {X:Cx} {pins:List (Addr×Obj)} {σ : St} {H:Hp} {s:Shared} {a:Addr} {y v:V} {u r:Value} {o:Option V} {A:Around} {E:Value->Shared->Prop} {kvs:List (Key×V)} {k:Key}
theorem Inv.big (I:Inv X pins σ H s):sysModules<s.heap.objs.size:=by
 have h:mainGlobals<s.heap.objs.size:=(I.mod.glob.keeps I.bk).lt
 exact Nat.lt_trans (by decide) h
end
section
variable {X:Cx} {pos:Pos}
end
section
variable {X:Cx}
end
noncomputable def D.key:D->Option Key
 | .int i=>some (.inl i)
 | .str x=>some (.inr x)
 | _=>none
noncomputable def Ey (ks:List Key) (k:Key):Bool:=ks.any fun j=>decide (j=k)
noncomputable def ww:List Key->List D->Key->Option D
 | j :: js,d :: ds,k=>if j=k then some d else ww js ds k
 | _,_,_=>none
section
variable {K:PySem.W.Frag} {F:Addr->Prop} {H H':Hp} {v:V} {d:D} {L:List Addr} {k:Key}
theorem Rp.key (r:Rp K F H v d L) (e:d.key=some k):v=kV k∧L=[]:=by
 cases r <;> first | (cases e;exact ⟨rfl,rfl⟩) | cases e
theorem Rp.dct_at {o:Bool} {ks:List Key} {ds:List D} (r:Rp K F H v (.dct o ks ds) L):∃ a kvs M,v = .ref a∧H a=some (.dK kvs)∧ks=kvs.map (·.1)∧Rps K F H (kvs.map (·.2)) ds M∧(∀ b∈M,b∈L):=by
 cases r with
 | dfz h f r=>exact ⟨_,_,_,rfl,h,rfl,r,fun b h=>h⟩
 | down h r=>exact ⟨_,_,_,rfl,h,rfl,r,fun b h=>List.mem_cons_of_mem _ h⟩
theorem Lq (kvs:List (Key×V)) (k:Key):Ey (kvs.map (·.1)) k=(ud kvs k).isSome:=by
 rw [← ue];unfold Ey;rw [List.any_map];rfl
theorem yL:∀ {kvs:List (Key×V)} {ds:List D} {M:List Addr},Rps K F H (kvs.map (·.2)) ds M->ww (kvs.map (·.1)) ds k=some d -> ∃ v N,ud kvs k=some v∧Rp K F H v d N
 | [],_,_,r,e=>by simp [ww] at e
 | p :: kvs,ds,M,r,e=>by
  rw [List.map_cons] at r
  cases r with
  | cons r rs=>
   rw [List.map_cons] at e
   unfold ww at e
   by_cases c:p.1=k
   ·rw [if_pos c] at e;cases e
    exact ⟨_,_,pO c,r⟩
   ·rw [if_neg c] at e
    obtain ⟨v,N,h1,h2⟩:=yL rs e
    exact ⟨v,N,by rw [pN c];exact h1,h2⟩
theorem Nv (kvs:List (Key×V)) (k:Key):(kvs.any fun kv=>decide (kv.1=k))=Ey (kvs.map (·.1)) k:=by rw [Lq,ue]
end
section
variable {X:Cx} {K:PySem.W.Frag}
noncomputable def lq:List D->Option D
 | [.dct _ ks ds,d]=>d.key.bind fun k=>(ww ks ds k).bind fun f=>if f.sh=true then some f else none
 | _=>none
noncomputable def PL:R2:=fun x y H Q=>∃ a kvs k v,x = .ref a∧H a=some (.dK kvs)∧y=kV k∧ud kvs k=some v∧Q v H
theorem lM:IxR X PL:=by
 intro value slice pins s σ H x y v u Q I rx ry h hs
 obtain ⟨a,kvs,k,z,rfl,e,rfl,l,q⟩:=h
 cases rx
 obtain ⟨_,hd,vs,rel,dd⟩:=Uk I.hok e
 obtain ⟨w',hw,rw'⟩:=vN.some_of (v:=z) (o:=valueAt vs k) (by rw [← l];exact rel.val k)
 have h₂ : wpAny (model X.prog X.w) X.A (getItem (.ref a) u) (EP X pins σ Q) X.xe s:=wpAny_getItem_of (Pr ry) dd.mapOf hw ⟨z,H,I.tok _,rw',q⟩
 have hT:s.TypeIs (.ref a) "dict":=dd.typeIs
 unfold subscriptTail
 refine wpAny_bind ?_
 rw [getitemInPython_of_ne hT.not_modules]
 refine wpAny_bind (wpAny_specialOf hT PySem.F.slot_dict_getitem.lookup ?_)
 have fin:wpAny (model X.prog X.w) X.A (subscripted slice false (.ref a) u) (fun r s₃ => wpAny (model X.prog X.w) X.A (letTemporaryGo value (.ref a) r >>= fun _=>pure r) (EP X pins σ Q) X.xe s₃) X.xe s:=by
  rw [hs]
  exact wpAny_operating (wpAny_mono h₂ (fun r s₃ h₃ => wpAny_bind (wpAny_letTemporaryGo (wpAny_pure h₃))) fun _ _ x=>x)
 first
  | exact wpAny_pure (wpAny_bind fin)
  | exact wpAny_bind (wpAny_pure (wpAny_bind fin))
  | exact wpAny_bind fin
theorem gQ:bM K (r2 PL) lq:=by
 intro F H vs ds f Q r e q
 unfold lq at e
 split at e
 ·obtain ⟨x,y,L,M,rfl,r1,r2⟩:=r.two
  obtain ⟨k,e1,e2⟩:=Option.bind_eq_some_iff.mp e
  obtain ⟨d,e3,e4⟩:=Option.bind_eq_some_iff.mp e2
  split at e4
  ·rename_i hs
   cases e4
   obtain ⟨a,kvs,N,rfl,ha,rfl,rs,_⟩:=r1.dct_at
   obtain ⟨v,N',h1,h2⟩:=yL rs e3
   cases h2.sh_nil hs
   exact ⟨_,_,rfl,a,kvs,k,v,rfl,ha,(r2.key e1).1,h1,q _ _ _ (.same h2)⟩
  ·cases e4
 ·cases e
end
section
variable {X:Cx} {pos:Pos}
theorem WS.putO {K:PySem.W.Frag} {F:Addr->Prop} {H:Hp} {σ : St} {ρ : En} {Ls:Nat->List Addr} {R:List Addr} {p:Addr} {o:OL} (hn:H p=none) (w:WS K F H σ ρ Ls R):WS K F (upd H p o.ho) σ ρ Ls (p :: R):=
 let w':=w.laid (o:=o.ho) hn
 { w' with
   rd:=List.nodup_cons.mpr ⟨fun z=>(by obtain ⟨ys,e⟩:=w.tr p z;rw [hn] at e;cases e),w.rd⟩
   rj:=fun i a z q=>by
    rcases List.mem_cons.mp q with q | q
    ·subst q;obtain ⟨ys,e⟩:=w.own z;rw [hn] at e;cases e
    ·exact w.rj i a z q
   nr:=fun a z q=>by
    rcases List.mem_cons.mp z with z | z
    ·subst z;exact w.ft a q hn
    ·exact w.nr a z q
   tr:=fun a z=>by
    rcases List.mem_cons.mp z with z | z
    ·subst z;exact ⟨o,cJ⟩
    ·exact w'.tr a z }
end
section
variable {X:Cx} {kp:Nat->Bool}
end
end L2
namespace HT
open PySem PySem.Spec PyProof.Rows L2
section
variable {prog:Program} {w:World} {A:Around} {E:Value->Shared->Prop} {s:Shared}
end
end HT
namespace L2
open PySem PySem.Spec PyProof.Rows
end L2
namespace Z
open PySem L2
noncomputable def jO:bV:=fnS 1 0 false
 (bR (jw (aM 3 bF [.nam 0,.val (sC (.int 2)),.val (sC (.int 2))]) (jw (aM 3 aK [.val (cY 0 (.val (sC (.int 0)))),.val (sC (.int 1)),.val (sC (.int 20))]) (aM 3 aK [.val (cY 0 (.val (sC (.int 1)))),.val (sC (.int 0)),.val (sC (.int 99))]))))
noncomputable def iG:bV:=fnS 1 0 false
 (aC (sIf (jr (cP (eQ (.val (aM 3 bF [.nam 0,.val (sC (.int 1)),.val (sC (.int 2))])))) (cP (eQ (.val (sDo oK [.val (bN (cM (aL 0)) 1 [] (gN 0) (cI) (aM 1 jO [.nam 0]))])))))
 (bR (sC (.bl false)))
 (bJ))
 (bR (sDo dLe [.val (sDo dIx [.val (cY 0 (.val (sC (.int 0)))),.val (sC (.int 1))]),.val (sDo dIx [.val (cY 0 (.val (sDo KY [.val (sC (.int 1))]))),.val (sC (.int 1))])])))
noncomputable def lE:bV:=fnS 2 8 false
 (aC (sIf (cP (eQ (.val (aM 3 bF [.nam 0,.val (sC (.int 8)),.val (sC (.int 8))]))))
 (bR (sC (.bl false)))
 (bJ))
 (aC (mG (gT [gN 2,gN 3,gN 4,gN 5,gN 6,gN 7,gN 8,gN 9]) (aL 0))
 (aC (sIf (jr (cP (eQ (.val (aM 3 aK [.nam 2,.val (sC (.int 0)),.val (sDo pX [.nam 1,.val (sC (.int 1))])])))) (jr (cP (eQ (.val (aM 3 aK [.nam 3,.val (sC (.int 0)),.val (sC (.int 20))])))) (cP (eQ (.val (aM 3 aK [.nam 4,.val (sC (.int 0)),.val (sC (.int 99))]))))))
 (bR (sC (.bl false)))
 (bJ))
 (aC (sIf (jr (cP (eQ (.val (aM 1 iG [.nam 5])))) (cP (eQ (.val (aM 3 aK [.nam 6,.val (sC (.int 0)),.val (sC (.int 99))])))))
 (bR (sC (.bl false)))
 (bJ))
 (bR (jw (aM 3 aK [.nam 7,.val (sC (.int 1)),.val (sC (.int 2))]) (jw (aM 3 aK [.nam 8,.val (sC (.int 1)),.val (sC (.int 2))]) (sDo eX [.nam 9,.val (sC (.ty "bool"))]))))))))
noncomputable def iU:bV:=fnS 2 5 false
 (aC (sIf (tB' (sDo yz [.nam 0,.val (sC .non)]))
 (bR (sC (.bl true)))
 (bJ))
 (aC (sIf (cP (eQ (.val (aM 3 bF [.nam 0,.val (sC (.int 5)),.val (sC (.int 5))]))))
 (bR (sC (.bl false)))
 (bJ))
 (aC (mG (gT [gN 2,gN 3,gN 4,gN 5,gN 6]) (aL 0))
 (aC (sIf (jr (cP (eQ (.val (aM 3 aK [.nam 2,.val (sC (.int 0)),.val (sDo pX [.nam 1,.val (sC (.int 1))])])))) (jr (cP (eQ (.val (aM 3 aK [.nam 3,.val (sC (.int 1)),.val (sC (.int 2))])))) (cP (eQ (.val (aM 3 aK [.nam 4,.val (sC (.int 0)),.nam 3]))))))
 (bR (sC (.bl false)))
 (bJ))
 (bR (jw (aM 3 aK [.nam 5,.val (sC (.int 1)),.val (sC (.int 20))]) (aM 3 aK [.nam 6,.val (sC (.int 0)),.nam 5])))))))
noncomputable def lD:bV:=fnS 2 3 false
 (aC (sIf (cP (eQ (.val (aM 3 bF [.nam 0,.val (sC (.int 3)),.val (sC (.int 3))]))))
 (bR (sC (.bl false)))
 (bJ))
 (aC (mG (gT [gN 2,gN 3,gN 4]) (aL 0))
 (bR (jw (aM 3 aK [.nam 2,.val (sC (.int 0)),.val (sDo pX [.nam 1,.val (sC (.int 1))])]) (jw (aM 3 aK [.nam 3,.val (sC (.int 0)),.val (sC (.int 30))]) (aM 3 aK [.nam 4,.val (sC (.int 0)),.val (sC (.int 100))]))))))
noncomputable def jm:bV:=fnS 2 0 false
 (bR (jw (aM 3 bF [.nam 0,.val (sC (.int 0)),.val (sC (.int 3))]) (sDo oK [.val (bN (cM (aL 0)) 1 [1] (gN 0) (cI) (aM 2 lD [.nam 0,.nam 1]))])))
noncomputable def gF:bV:=fnS 1 5 false
 (aC (sIf (cP (eQ (.val (aM 3 bF [.nam 0,.val (sC (.int 4)),.val (sC (.int 4))]))))
 (bR (sC (.bl false)))
 (bJ))
 (aC (mG (gT [gN 1,gN 2,gN 3,gN 4]) (aL 0))
 (aC (sIf (jr (cP (eQ (.val (aM 1 mH [.nam 1])))) (jr (cP (eQ (.val (aM 3 bF [.nam 2,.val (sC (.int 0)),.val (sC (.int 3))])))) (cP (eQ (.val (aM 3 bF [.nam 4,.val (sC (.int 1)),.val (sC (.int 3))]))))))
 (bR (sC (.bl false)))
 (bJ))
 (aC (bh 5 (cY 1 (.val (sC (.int 0)))))
 (aC (sIf (jr (cP (eQ (.val (sDo oK [.val (bN (cM (aL 2)) 1 [5] (gN 0) (cI) (aM 2 lE [.nam 0,.nam 1]))])))) (cP (eQ (.val (aM 2 iU [.nam 3,.nam 5])))))
 (bR (sC (.bl false)))
 (bJ))
 (bR (sDo oK [.val (bN (cM (aL 4)) 1 [5] (gN 0) (cI) (aM 2 jm [.nam 0,.nam 1]))])))))))
end Z
namespace Z
open PySem L2 TM PyProof.Rows
theorem xu {ds:List D} {n:Nat} (h:ds.length≠n):dZ (.tup ds) n n=false:=by
 show (decide ((n:Int)<=(ds.length:Int))&&decide ((ds.length:Int)<=n))=false
 by_cases c:(n:Int)<=(ds.length:Int)
 ·rw [decide_eq_true c,Bool.true_and];exact decide_eq_false (by omega)
 ·rw [decide_eq_false c];rfl
theorem jF (f:D->D) {g:dY} {el:aZ} (S:En->Prop) {xs:List D} {ρ : En} {Q:List D->En->Prop} (h0:S ρ)
  (hs:∀ x∈xs,∀ ρ,S ρ -> ∀ P:D->En->Prop,(∀ ρ',S ρ'->P (f x) ρ')->g x ρ fun ρ1=>el ρ1 P) (hQ:∀ ρ',S ρ'->Q (xs.map f) ρ'):iK g cI el xs ρ Q:=by
 have:=bK id f (g:=g) (el:=el) S (xs:=xs) (Q:=Q) h0 hs hQ
 rw [List.map_id] at this
 exact this
noncomputable def cN:D->Bool
 | .tup [a,b]=>aA a 1 20&&aA b 0 99
 | _=>false
theorem zJ {ds:List D} (h:ds.length≠2):cN (.tup ds)=false:=by
 unfold cN
 split
 ·rename_i z;cases z;exact absurd rfl h
 ·rfl
theorem tD {d:D} (h:∀ ds,d ≠ .tup ds):cN d=false:=by
 unfold cN
 split
 ·exact absurd rfl (h _)
 ·rfl
theorem Ei (d:D):(∃ a b,d = .tup [a,b])∨(∃ ds,d = .tup ds∧ds.length≠2) ∨ ∀ ds,d ≠ .tup ds:=by
 rcases jU d with ⟨ds,rfl⟩ | hn
 ·by_cases h:ds.length=2
  ·match ds,h with
   | [a,b],_=>exact .inl ⟨a,b,rfl⟩
  ·exact .inr (.inl ⟨ds,rfl,h⟩)
 ·exact .inr (.inr hn)
theorem FZ {m:Nat} {d:D} (h:Th m d) {Q:D->Option D->Prop} (q:Q (.bl (cN d)) none):jO [d] Q:=by
 have hs:=h.s
 dsimp? only [jO,h.fz]
 refine fO h ?_
 rcases Ei d with ⟨a,b,rfl⟩ | ⟨ds,rfl,hd⟩ | hn
 ·obtain ⟨ht,_⟩:=h.of_tup
  have ha:=ht a (by simp);have hb:=ht b (by simp)
  have er:dZ (.tup [a,b]) 2 2=true:=rfl
  have i0:ixF (.tup [a,b]) 0=some (a,none):=cu _ (k:=0) rfl ha.s
  have i1:ixF (.tup [a,b]) 1=some (b,none):=cu _ (k:=1) rfl hb.s
  have q':Q (.bl (aA a 1 20&&aA b 0 99)) none:=q
  dsimp? only [er,i0,ha.fz,hs,ha.s,hb.s]
  refine bj ha ?_
  cases w1:aA a 1 20 with
  | false=>
   rw [w1] at q'
   (try dsimp? only)
   exact q'
  | true=>
   rw [w1,Bool.true_and] at q'
   dsimp? only [i1,hb.fz,ha.s,hb.s]
   refine bj hb ?_
   (try dsimp? only)
   exact q'
 ·rw [zJ hd] at q
  dsimp? only [show dZ (.tup ds) 2 2=false from xu (n:=2) hd]
  exact q
 ·rw [tD hn] at q
  dsimp? only [gB hn]
  exact q
theorem ql {d:D} (h:cN d=true):∃ i j:Int,d = .tup [.int i,.int j]:=by
 rcases Ei d with ⟨a,b,rfl⟩ | ⟨ds,rfl,hd⟩ | hn
 ·have h':(aA a 1 20&&aA b 0 99)=true:=h
  rw [Bool.and_eq_true] at h'
  obtain ⟨i,rfl,_⟩:=dg h'.1
  obtain ⟨j,rfl,_⟩:=dg h'.2
  exact ⟨i,j,rfl⟩
 ·rw [zJ hd] at h;cases h
 ·rw [tD hn] at h;cases h
noncomputable def rG:D->Int
 | .tup [_,.int j]=>j
 | _=>0
noncomputable def je:D->Bool
 | .tup [p]=>cN p
 | .tup [p,r]=>cN p&&(cN r&&decide (rG p<=rG r))
 | _=>false
theorem Vl (ds:List D):dZ (.tup ds) 1 2=true∧((∃ p,ds=[p]) ∨ ∃ p r,ds=[p,r])∨dZ (.tup ds) 1 2=false∧je (.tup ds)=false:=by
 match ds with
 | []=>exact .inr ⟨rfl,rfl⟩
 | [p]=>exact .inl ⟨rfl,.inl ⟨p,rfl⟩⟩
 | [p,r]=>exact .inl ⟨rfl,.inr ⟨p,r,rfl⟩⟩
 | a :: b :: c :: ds=>
  refine .inr ⟨?_,rfl⟩
  show (decide ((1:Int)<=((a :: b :: c :: ds).length:Int))&&decide (((a :: b :: c :: ds).length:Int)<=2))=false
  rw [decide_eq_false (p:=((a :: b :: c :: ds).length:Int)<=2) (by simp only [List.length_cons];omega),Bool.and_false]
theorem zK {d:D} (h:∀ ds,d ≠ .tup ds):je d=false:=by
 unfold je
 split
 ·exact absurd rfl (h _)
 ·exact absurd rfl (h _)
 ·rfl
theorem Bv {m:Nat} {d:D} (h:Th m d) {Q:D->Option D->Prop} (q:Q (.bl (je d)) none):iG [d] Q:=by
 have hs:=h.s
 dsimp? only [iG,h.fz]
 refine fO h ?_
 rcases jU d with ⟨ds,rfl⟩ | hn
 ·obtain ⟨ht,_⟩:=h.of_tup
  rcases Vl ds with ⟨e,hp⟩ | ⟨e,e2⟩
  ·have hl:ds.length<=2:=by rcases hp with ⟨p,rfl⟩ | ⟨p,r,rfl⟩ <;> simp
   have hsl:D.shs ds=true:=(km ds).mpr fun d hd=>(ht d hd).s
   have hfl:D.fzs ds=ds:=D.shs_fz _ hsl
   dsimp? only [e,hs,hsl,hfl]
   refine aR (by omega) ?_
   (try dsimp? only)
   refine jF (fun d=>D.bl (cN d)) (fun ρ => ∃ x,ρ = [x]) ⟨_,rfl⟩ ?_ ?_
   ·rintro d hd ρ ⟨x,rfl⟩ P hP
    dsimp? only [(ht d hd).fz]
    refine FZ (ht d hd) ?_
    dsimp? only [(ht d hd).s]
    exact hP _ ⟨_,rfl⟩
   rintro ρ ⟨x,rfl⟩
   dsimp? only [oM true cN ds]
   cases ea:ds.all cN with
   | false=>
    have e3:je (.tup ds)=false:=by
     rcases hp with ⟨p,rfl⟩ | ⟨p,r,rfl⟩
     ·simpa [je] using ea
     ·have ea':(cN p&&(cN r&&true))=false:=ea
      show (cN p&&(cN r&&_))=false
      revert ea'
      cases cN p <;> cases cN r <;> simp
    rw [e3] at q
    (try dsimp? only)
    exact q
   | true=>
    rcases hp with ⟨p,rfl⟩ | ⟨p,r,rfl⟩
    ·have hp1:cN p=true:=by simpa using ea
     obtain ⟨i,j,rfl⟩:=ql hp1
     have q':Q (.bl (cN (.tup [.int i,.int j]))) none:=q
     rw [hp1] at q'
     have i0:ixF (.tup [.tup [.int i,.int j]]) 0=some (.tup [.int i,.int j],none):=rfl
     have i9:ixF (.tup [.tup [.int i,.int j]]) (-1)=some (.tup [.int i,.int j],none):=rfl
     have k1:dIx [.tup [.int i,.int j],.int 1]=some (.int j):=rfl
     dsimp? only [i0,i9,k1,decide_eq_true (Int.le_refl j)]
     exact q'
    ·have hp2:cN p=true∧cN r=true:=by
      rw [List.all_cons,List.all_cons,Bool.and_eq_true,Bool.and_eq_true] at ea
      exact ⟨ea.1,ea.2.1⟩
     have q':Q (.bl (cN p&&(cN r&&decide (rG p<=rG r)))) none:=q
     rw [hp2.1,hp2.2,Bool.true_and,Bool.true_and] at q'
     obtain ⟨i,j,rfl⟩:=ql hp2.1
     obtain ⟨i',j',rfl⟩:=ql hp2.2
     have i0:ixF (.tup [.tup [.int i,.int j],.tup [.int i',.int j']]) 0=some (.tup [.int i,.int j],none):=rfl
     have i9:ixF (.tup [.tup [.int i,.int j],.tup [.int i',.int j']]) (-1)=some (.tup [.int i',.int j'],none):=rfl
     have k1:dIx [.tup [.int i,.int j],.int 1]=some (.int j):=rfl
     have k2:dIx [.tup [.int i',.int j'],.int 1]=some (.int j'):=rfl
     dsimp? only [i0,i9,k1,k2]
     exact q'
  ·rw [e2] at q
   dsimp? only [e]
   exact q
 ·rw [zK hn] at q
  dsimp? only [gB hn]
  exact q
noncomputable def blB:D->Bool
 | .bl _=>true
 | _=>false
theorem Hy {m:Nat} {d:D} (h:Th m d):eX [d,.ty "bool"]=some (.bl (blB d)):=by
 have hp:=h.p
 cases d with
 | scr _=>simp [pn] at hp
 | ty _=>simp [pn] at hp
 | xc _ _=>simp [pn] at hp
 | fn _=>simp [pn] at hp
 | dct _ _ _=>simp [pn] at hp
 | _=>rfl
noncomputable def dX (n:Int):D->Bool
 | .tup [a,b,c,p,e,f,g,h]=>aA a 0 (n - 1)&&(aA b 0 20&&(aA c 0 99&&(je p&&(aA e 0 99&&(aA f 1 2&&(aA g 1 2&&blB h))))))
 | _=>false
theorem OJ {n:Int} {ds:List D} (h:ds.length≠8):dX n (.tup ds)=false:=by
 unfold dX
 split
 ·rename_i z;cases z;exact absurd rfl h
 ·rfl
theorem Gu {n:Int} {d:D} (h:∀ ds,d ≠ .tup ds):dX n d=false:=by
 unfold dX
 split
 ·exact absurd rfl (h _)
 ·rfl
theorem Hc (d:D):(∃ a b c p e f g h,d = .tup [a,b,c,p,e,f,g,h])∨(∃ ds,d = .tup ds∧ds.length≠8) ∨ ∀ ds,d ≠ .tup ds:=by
 rcases jU d with ⟨ds,rfl⟩ | hn
 ·by_cases h:ds.length=8
  ·match ds,h with
   | [a,b,c,p,e,f,g,h],_=>exact .inl ⟨a,b,c,p,e,f,g,h,rfl⟩
  ·exact .inr (.inl ⟨ds,rfl,h⟩)
 ·exact .inr (.inr hn)
theorem Ko {m:Nat} {n:Int} {d:D} (h:Th m d) {Q:D->Option D->Prop} (q:Q (.bl (dX n d)) none):lE [d,.int n] Q:=by
 have hs:=h.s
 dsimp? only [lE,h.fz]
 refine fO h ?_
 rcases Hc d with ⟨a,b,c,p,e,f,g,h',rfl⟩ | ⟨ds,rfl,hd⟩ | hn
 ·obtain ⟨ht,_⟩:=h.of_tup
  have ta:=ht a (by simp)
  have tb:=ht b (by simp)
  have tc:=ht c (by simp)
  have tp:=ht p (by simp)
  have te:=ht e (by simp)
  have tf:=ht f (by simp)
  have tg:=ht g (by simp)
  have th:=ht h' (by simp)
  have er:dZ (.tup [a,b,c,p,e,f,g,h']) 8 8=true:=rfl
  have i0:ixF (.tup [a,b,c,p,e,f,g,h']) 0=some (a,none):=cu _ (k:=0) rfl ta.s
  have i1:ixF (.tup [a,b,c,p,e,f,g,h']) 1=some (b,none):=cu _ (k:=1) rfl tb.s
  have i2:ixF (.tup [a,b,c,p,e,f,g,h']) 2=some (c,none):=cu _ (k:=2) rfl tc.s
  have i3:ixF (.tup [a,b,c,p,e,f,g,h']) 3=some (p,none):=cu _ (k:=3) rfl tp.s
  have i4:ixF (.tup [a,b,c,p,e,f,g,h']) 4=some (e,none):=cu _ (k:=4) rfl te.s
  have i5:ixF (.tup [a,b,c,p,e,f,g,h']) 5=some (f,none):=cu _ (k:=5) rfl tf.s
  have i6:ixF (.tup [a,b,c,p,e,f,g,h']) 6=some (g,none):=cu _ (k:=6) rfl tg.s
  have i7:ixF (.tup [a,b,c,p,e,f,g,h']) 7=some (h',none):=cu _ (k:=7) rfl th.s
  dsimp? only [er,i0,i1,i2,i3,i4,i5,i6,i7,ta.fz,tb.fz,tc.fz,tp.fz,te.fz,tf.fz,tg.fz,th.fz,ta.s,tb.s,tc.s,tp.s,te.s,tf.s,tg.s,th.s,hs]
  refine bj ta ?_
  cases wa:aA a 0 (n - 1) with
  | false=>
   rw [show dX n (.tup [a,b,c,p,e,f,g,h'])=false by simp [dX,wa]] at q
   (try dsimp? only)
   exact q
  | true=>
   dsimp? only [er,i0,i1,i2,i3,i4,i5,i6,i7,ta.fz,tb.fz,tc.fz,tp.fz,te.fz,tf.fz,tg.fz,th.fz,ta.s,tb.s,tc.s,tp.s,te.s,tf.s,tg.s,th.s,hs]
   refine bj tb ?_
   cases wb':aA b 0 20 with
   | false=>
    rw [show dX n (.tup [a,b,c,p,e,f,g,h'])=false by simp [dX,wb']] at q
    (try dsimp? only)
    exact q
   | true=>
    dsimp? only [er,i0,i1,i2,i3,i4,i5,i6,i7,ta.fz,tb.fz,tc.fz,tp.fz,te.fz,tf.fz,tg.fz,th.fz,ta.s,tb.s,tc.s,tp.s,te.s,tf.s,tg.s,th.s,hs]
    refine bj tc ?_
    cases wc:aA c 0 99 with
    | false=>
     rw [show dX n (.tup [a,b,c,p,e,f,g,h'])=false by simp [dX,wc]] at q
     (try dsimp? only)
     exact q
    | true=>
     dsimp? only [er,i0,i1,i2,i3,i4,i5,i6,i7,ta.fz,tb.fz,tc.fz,tp.fz,te.fz,tf.fz,tg.fz,th.fz,ta.s,tb.s,tc.s,tp.s,te.s,tf.s,tg.s,th.s,hs]
     refine Bv tp ?_
     cases wp:je p with
     | false=>
      rw [show dX n (.tup [a,b,c,p,e,f,g,h'])=false by simp [dX,wp]] at q
      (try dsimp? only)
      exact q
     | true=>
      dsimp? only [er,i0,i1,i2,i3,i4,i5,i6,i7,ta.fz,tb.fz,tc.fz,tp.fz,te.fz,tf.fz,tg.fz,th.fz,ta.s,tb.s,tc.s,tp.s,te.s,tf.s,tg.s,th.s,hs]
      refine bj te ?_
      cases we:aA e 0 99 with
      | false=>
       rw [show dX n (.tup [a,b,c,p,e,f,g,h'])=false by simp [dX,we]] at q
       (try dsimp? only)
       exact q
      | true=>
       dsimp? only [er,i0,i1,i2,i3,i4,i5,i6,i7,ta.fz,tb.fz,tc.fz,tp.fz,te.fz,tf.fz,tg.fz,th.fz,ta.s,tb.s,tc.s,tp.s,te.s,tf.s,tg.s,th.s,hs]
       refine bj tf ?_
       cases wf:aA f 1 2 with
       | false=>
        rw [show dX n (.tup [a,b,c,p,e,f,g,h'])=false by simp [dX,wf]] at q
        (try dsimp? only)
        exact q
       | true=>
        dsimp? only [er,i0,i1,i2,i3,i4,i5,i6,i7,ta.fz,tb.fz,tc.fz,tp.fz,te.fz,tf.fz,tg.fz,th.fz,ta.s,tb.s,tc.s,tp.s,te.s,tf.s,tg.s,th.s,hs]
        refine bj tg ?_
        cases wg:aA g 1 2 with
        | false=>
         rw [show dX n (.tup [a,b,c,p,e,f,g,h'])=false by simp [dX,wg]] at q
         (try dsimp? only)
         exact q
        | true=>
         have e1:dX n (.tup [a,b,c,p,e,f,g,h'])=blB h':=by show (aA a 0 (n - 1)&&_)=_;rw [wa,wb',wc,wp,we,wf,wg];rfl
         rw [e1] at q
         dsimp? only [ta.fz,tb.fz,tc.fz,tp.fz,te.fz,tf.fz,tg.fz,th.fz,ta.s,tb.s,tc.s,tp.s,te.s,tf.s,tg.s,th.s,hs,Hy th]
         exact q
 ·rw [OJ hd] at q
  dsimp? only [show dZ (.tup ds) 8 8=false from xu (n:=8) hd]
  exact q
 ·rw [Gu hn] at q
  dsimp? only [gB hn]
  exact q
theorem Ru (d:D):d = .non∨d ≠ .non:=by cases d <;> simp
theorem QF {m:Nat} {d:D} (h:Th m d) (hn:d ≠ .non):yz [d,.non]=some (.bl false):=by
 have hp:=h.p
 cases d with
 | non=>exact absurd rfl hn
 | scr _=>simp [pn] at hp
 | ty _=>simp [pn] at hp
 | xc _ _=>simp [pn] at hp
 | fn _=>simp [pn] at hp
 | dct _ _ _=>simp [pn] at hp
 | _=>rfl
theorem LQ:yz [.non,.non]=some (.bl true):=rfl
noncomputable def inD (c b:D):Bool:=match b with
 | .int j=>aA c 0 j
 | _=>false
noncomputable def fG (n:Int):D->Bool
 | .non=>true
 | .tup [a,b,c,e,f]=>aA a 0 (n - 1)&&(aA b 1 2&&(inD c b&&(aA e 1 20&&inD f e)))
 | _=>false
theorem JQ {n:Int} {ds:List D} (h:ds.length≠5):fG n (.tup ds)=false:=by
 unfold fG
 split
 ·rename_i z;cases z
 ·rename_i z;cases z;exact absurd rfl h
 ·rfl
theorem BL {n:Int} {d:D} (h0:d ≠ .non) (h:∀ ds,d ≠ .tup ds):fG n d=false:=by
 unfold fG
 split
 ·exact absurd rfl h0
 ·exact absurd rfl (h _)
 ·rfl
theorem Lg (d:D):(∃ a b c e f,d = .tup [a,b,c,e,f])∨(∃ ds,d = .tup ds∧ds.length≠5) ∨ ∀ ds,d ≠ .tup ds:=by
 rcases jU d with ⟨ds,rfl⟩ | hn
 ·by_cases h:ds.length=5
  ·match ds,h with
   | [a,b,c,e,f],_=>exact .inl ⟨a,b,c,e,f,rfl⟩
  ·exact .inr (.inl ⟨ds,rfl,h⟩)
 ·exact .inr (.inr hn)
theorem Gj {m:Nat} {n:Int} {d:D} (h:Th m d) {Q:D->Option D->Prop} (q:Q (.bl (fG n d)) none):iU [d,.int n] Q:=by
 have hs:=h.s
 rcases Ru d with rfl | h0
 ·dsimp? only [iU,LQ]
  exact q
 have hN:=QF h h0
 dsimp? only [iU,hN,h.fz]
 refine fO h ?_
 rcases Lg d with ⟨a,b,c,e,f,rfl⟩ | ⟨ds,rfl,hd⟩ | hn
 ·obtain ⟨ht,_⟩:=h.of_tup
  have ta:=ht a (by simp)
  have tb:=ht b (by simp)
  have tc:=ht c (by simp)
  have te:=ht e (by simp)
  have tf:=ht f (by simp)
  have er:dZ (.tup [a,b,c,e,f]) 5 5=true:=rfl
  have i0:ixF (.tup [a,b,c,e,f]) 0=some (a,none):=cu _ (k:=0) rfl ta.s
  have i1:ixF (.tup [a,b,c,e,f]) 1=some (b,none):=cu _ (k:=1) rfl tb.s
  have i2:ixF (.tup [a,b,c,e,f]) 2=some (c,none):=cu _ (k:=2) rfl tc.s
  have i3:ixF (.tup [a,b,c,e,f]) 3=some (e,none):=cu _ (k:=3) rfl te.s
  have i4:ixF (.tup [a,b,c,e,f]) 4=some (f,none):=cu _ (k:=4) rfl tf.s
  dsimp? only [er,i0,i1,i2,i3,i4,ta.fz,tb.fz,tc.fz,te.fz,tf.fz,ta.s,tb.s,tc.s,te.s,tf.s,hs]
  refine bj ta ?_
  cases wa':aA a 0 (n - 1) with
  | false=>
   rw [show fG n (.tup [a,b,c,e,f])=false by simp [fG,wa']] at q
   (try dsimp? only)
   exact q
  | true=>
   dsimp? only [er,i0,i1,i2,i3,i4,ta.fz,tb.fz,tc.fz,te.fz,tf.fz,ta.s,tb.s,tc.s,te.s,tf.s,hs]
   refine bj tb ?_
   cases wb':aA b 1 2 with
   | false=>
    rw [show fG n (.tup [a,b,c,e,f])=false by simp [fG,wb']] at q
    (try dsimp? only)
    exact q
   | true=>
    obtain ⟨j,rfl,_⟩:=dg wb'
    dsimp? only [er,i0,i1,i2,i3,i4,ta.fz,tc.fz,te.fz,tf.fz,ta.s,tc.s,te.s,tf.s,hs]
    refine bj tc ?_
    cases wc:aA c 0 j with
    | false=>
     rw [show fG n (.tup [a,.int j,c,e,f])=false by simp [fG,inD,wc]] at q
     (try dsimp? only)
     exact q
    | true=>
     dsimp? only [er,i0,i1,i2,i3,i4,ta.fz,tc.fz,te.fz,tf.fz,ta.s,tc.s,te.s,tf.s,hs]
     refine bj te ?_
     cases we:aA e 1 20 with
     | false=>
      rw [show fG n (.tup [a,.int j,c,e,f])=false by simp [fG,we]] at q
      (try dsimp? only)
      exact q
     | true=>
      obtain ⟨k,rfl,_⟩:=dg we
      have e1:fG n (.tup [a,.int j,c,.int k,f])=aA f 0 k:=by show (aA a 0 (n - 1)&&(aA (.int j) 1 2&&(aA c 0 j&&(aA (.int k) 1 20&&aA f 0 k))))=_;rw [wa',wb',wc,we];rfl
      rw [e1] at q
      dsimp? only [er,i0,i1,i2,i3,i4,ta.fz,tc.fz,tf.fz,ta.s,tc.s,tf.s,hs]
      refine bj tf ?_
      (try dsimp? only)
      exact q
 ·rw [JQ hd] at q
  dsimp? only [show dZ (.tup ds) 5 5=false from xu (n:=5) hd]
  exact q
 ·rw [BL h0 hn] at q
  dsimp? only [gB hn]
  exact q
noncomputable def jW (n:Int):D->Bool
 | .tup [a,b,c]=>aA a 0 (n - 1)&&(aA b 0 30&&aA c 0 100)
 | _=>false
theorem Ox {n:Int} {ds:List D} (h:ds.length≠3):jW n (.tup ds)=false:=by
 unfold jW
 split
 ·rename_i z;cases z;exact absurd rfl h
 ·rfl
theorem Gq {n:Int} {d:D} (h:∀ ds,d ≠ .tup ds):jW n d=false:=by
 unfold jW
 split
 ·exact absurd rfl (h _)
 ·rfl
theorem Kc (d:D):(∃ a b c,d = .tup [a,b,c])∨(∃ ds,d = .tup ds∧ds.length≠3) ∨ ∀ ds,d ≠ .tup ds:=by
 rcases jU d with ⟨ds,rfl⟩ | hn
 ·by_cases h:ds.length=3
  ·match ds,h with
   | [a,b,c],_=>exact .inl ⟨a,b,c,rfl⟩
  ·exact .inr (.inl ⟨ds,rfl,h⟩)
 ·exact .inr (.inr hn)
theorem Kh {m:Nat} {n:Int} {d:D} (h:Th m d) {Q:D->Option D->Prop} (q:Q (.bl (jW n d)) none):lD [d,.int n] Q:=by
 have hs:=h.s
 dsimp? only [lD,h.fz]
 refine fO h ?_
 rcases Kc d with ⟨a,b,c,rfl⟩ | ⟨ds,rfl,hd⟩ | hn
 ·obtain ⟨ht,_⟩:=h.of_tup
  have ta:=ht a (by simp)
  have tb:=ht b (by simp)
  have tc:=ht c (by simp)
  have er:dZ (.tup [a,b,c]) 3 3=true:=rfl
  have i0:ixF (.tup [a,b,c]) 0=some (a,none):=cu _ (k:=0) rfl ta.s
  have i1:ixF (.tup [a,b,c]) 1=some (b,none):=cu _ (k:=1) rfl tb.s
  have i2:ixF (.tup [a,b,c]) 2=some (c,none):=cu _ (k:=2) rfl tc.s
  dsimp? only [er,i0,i1,i2,ta.fz,tb.fz,tc.fz,ta.s,tb.s,tc.s,hs]
  refine bj ta ?_
  cases wa':aA a 0 (n - 1) with
  | false=>
   rw [show jW n (.tup [a,b,c])=false by simp [jW,wa']] at q
   (try dsimp? only)
   exact q
  | true=>
   dsimp? only [er,i0,i1,i2,ta.fz,tb.fz,tc.fz,ta.s,tb.s,tc.s,hs]
   refine bj tb ?_
   cases wb':aA b 0 30 with
   | false=>
    rw [show jW n (.tup [a,b,c])=false by simp [jW,wb']] at q
    (try dsimp? only)
    exact q
   | true=>
    have e1:jW n (.tup [a,b,c])=aA c 0 100:=by show (aA a 0 (n - 1)&&(aA b 0 30&&aA c 0 100))=_;rw [wa',wb'];rfl
    rw [e1] at q
    dsimp? only [er,i0,i1,i2,ta.fz,tb.fz,tc.fz,ta.s,tb.s,tc.s,hs]
    refine bj tc ?_
    (try dsimp? only)
    exact q
 ·rw [Ox hd] at q
  dsimp? only [show dZ (.tup ds) 3 3=false from xu (n:=3) hd]
  exact q
 ·rw [Gq hn] at q
  dsimp? only [gB hn]
  exact q
noncomputable def kZ (n:Int):D->Bool
 | .tup ds=>decide (ds.length<=3)&&ds.all (jW n)
 | _=>false
theorem Ca {n:Int} {d:D} (h:∀ ds,d ≠ .tup ds):kZ n d=false:=by
 unfold kZ
 split
 ·exact absurd rfl (h _)
 ·rfl
theorem zO (ds:List D) (k:Nat):dZ (.tup ds) 0 k=decide (ds.length<=k):=by
 show (decide ((0:Int)<=(ds.length:Int))&&decide ((ds.length:Int)<=(k:Int)))=_
 rw [decide_eq_true (show (0:Int)<=(ds.length:Int) by omega),Bool.true_and]
 by_cases h:ds.length<=k
 ·rw [decide_eq_true h,decide_eq_true (by omega)]
 ·rw [decide_eq_false h,decide_eq_false (by omega)]
theorem Gr {m:Nat} {n:Int} {d:D} (h:Th m d) {Q:D->Option D->Prop} (q:Q (.bl (kZ n d)) none):jm [d,.int n] Q:=by
 have hs:=h.s
 dsimp? only [jm,h.fz]
 refine fO h ?_
 rcases jU d with ⟨ds,rfl⟩ | hn
 ·obtain ⟨ht,_⟩:=h.of_tup
  have hsl:D.shs ds=true:=(km ds).mpr fun d hd=>(ht d hd).s
  have hfl:D.fzs ds=ds:=D.shs_fz _ hsl
  have q':Q (.bl (decide (ds.length<=3)&&ds.all (jW n))) none:=q
  rw [show dZ (.tup ds) 0 3=decide (ds.length<=3) from zO ds 3]
  by_cases c:ds.length<=3
  ·rw [decide_eq_true c,Bool.true_and] at q'
   dsimp? only [decide_eq_true c,hs,hsl,hfl]
   refine aR (by omega) ?_
   (try dsimp? only)
   refine jF (fun d=>D.bl (jW n d)) (fun ρ => ∃ x,ρ = [x,some (.int n)]) ⟨_,rfl⟩ ?_ ?_
   ·rintro d hd ρ ⟨x,rfl⟩ P hP
    dsimp? only [(ht d hd).fz]
    refine Kh (ht d hd) ?_
    dsimp? only [(ht d hd).s]
    exact hP _ ⟨_,rfl⟩
   rintro ρ ⟨x,rfl⟩
   dsimp? only [oM true (jW n) ds]
   exact q'
  ·rw [decide_eq_false c,Bool.false_and] at q'
   dsimp? only [decide_eq_false c]
   exact q'
 ·rw [Ca hn] at q
  dsimp? only [gB hn]
  exact q
noncomputable def ux (xs:List Nat) (a:Nat):List Nat:=if a∈xs then xs else xs++[a]
noncomputable def qJ (xs:List Nat) (l:Ln):List Nat:=if l.a∈xs∨l.b∈xs then ux (ux xs l.a) l.b else xs
theorem zj {xs:List Nat} {a x:Nat} (h:x∈xs):x∈ux xs a:=by
 unfold ux;split
 ·exact h
 ·exact List.mem_append_left _ h
theorem zg {xs:List Nat} {a x:Nat} (h:x∈ux xs a):x∈xs∨x=a:=by
 unfold ux at h;split at h
 ·exact .inl h
 ·exact (List.mem_append.mp h).imp id fun z=>List.mem_singleton.mp z
theorem CW {xs:List Nat} {a:Nat} (h:xs.Nodup):(ux xs a).Nodup:=by
 unfold ux;split
 ·exact h
 ·rename_i hn
  exact List.nodup_append.mpr ⟨h,by simp,fun x hx y hy=>by rw [List.mem_singleton.mp hy];intro e;rw [e] at hx;exact hn hx⟩
theorem Fp {xs:List Nat} {l:Ln} {x:Nat} (h:x∈xs):x∈qJ xs l:=by
 unfold qJ;split
 ·exact zj (zj h)
 ·exact h
structure Met (n:Nat) (ls:List Ln) (xs:List Nat):Prop where
 nd:xs.Nodup
 z:0∈xs
 lt:∀ x∈xs,x<n
 c:∀ c:Nat->Int,(∀ l∈ls,c l.a=c l.b) -> ∀ x∈xs,c x=c 0
theorem zc {n:Nat}:∀ {ls:List D},ls.all (lA (n:Int))=true -> ∃ ks:List Ln,ls=ks.map Ln.d ∧ ∀ l∈ks,l.Ok n
 | [],_=>⟨[],rfl,fun l h=>by simp at h⟩
 | d :: ls,h=>by
  rw [List.all_cons,Bool.and_eq_true] at h
  obtain ⟨ks,rfl,hk⟩:=zc h.2
  rcases wj d with ⟨a,b,c,e,rfl⟩ | ⟨ds,rfl,hd⟩ | hn
  ·have h1:(aA a 0 ((n:Int) - 1)&&(aA b 0 ((n:Int) - 1)&&(!DQ a b&&(aA c 1 9&&aA e 0 99))))=true:=h.1
   simp only [Bool.and_eq_true] at h1
   obtain ⟨i,rfl,hi⟩:=dg h1.1
   obtain ⟨j,rfl,hj⟩:=dg h1.2.1
   obtain ⟨p,rfl,hp⟩:=dg h1.2.2.2.1
   obtain ⟨q,rfl,hq⟩:=dg h1.2.2.2.2
   have hne:i≠j:=by
    have:=h1.2.2.1
    simpa [DQ] using this
   refine ⟨⟨i.toNat,j.toNat,p.toNat,q.toNat⟩ :: ks,?_,fun l hl=>?_⟩
   ·show _=Ln.d _ :: ks.map Ln.d
    unfold Ln.d
    dsimp only
    rw [Int.toNat_of_nonneg (by omega),Int.toNat_of_nonneg (by omega),Int.toNat_of_nonneg (by omega),Int.toNat_of_nonneg (by omega)]
   ·rcases List.mem_cons.mp hl with rfl | hl
    ·have h1':=hi.1;have h2':=hi.2;have h3':=hj.1;have h4':=hj.2;have h5':=hp.1;have h6':=hp.2;have h7':=hq.1;have h8':=hq.2
     refine ⟨?_,?_,?_,⟨?_,?_⟩,?_⟩ <;> dsimp only <;> omega
    ·exact hk l hl
  ·rw [vz hd] at h;cases h.1
  ·rw [vA hn] at h;cases h.1
theorem Tt (d:D):(∃ a b,d = .tup [a,b])∨(∃ ds,d = .tup ds∧ds.length≠2) ∨ ∀ ds,d ≠ .tup ds:=by
 rcases jU d with ⟨ds,rfl⟩ | hn
 ·by_cases h:ds.length=2
  ·match ds,h with
   | [a,b],_=>exact .inl ⟨a,b,rfl⟩
  ·exact .inr (.inl ⟨ds,rfl,h⟩)
 ·exact .inr (.inr hn)
theorem Jq {ds:List D} (h:ds.length≠2):dZ (.tup ds) 2 2=false:=by
 show (decide ((2:Int)<=(ds.length:Int))&&decide ((ds.length:Int)<=2))=false
 by_cases c:(2:Int)<=(ds.length:Int)
 ·rw [decide_eq_true c,Bool.true_and];exact decide_eq_false (by omega)
 ·rw [decide_eq_false c];rfl
theorem Ln.d_inj {l k:Ln} (h:l.d=k.d):l=k:=by
 unfold Ln.d at h
 injection h with h
 injection h with h1 h
 injection h with h2 h
 injection h with h3 h
 injection h with h4 h
 injection h1 with h1
 injection h2 with h2
 injection h3 with h3
 injection h4 with h4
 cases l;cases k
 dsimp only at h1 h2 h3 h4
 congr <;> omega
theorem CV:∀ {ls ks:List Ln},ls.map Ln.d=ks.map Ln.d->ls=ks
 | [],[],_=>rfl
 | [],k :: ks,h=>by cases h
 | l :: ls,[],h=>by cases h
 | l :: ls,k :: ks,h=>by
  rw [List.map_cons,List.map_cons] at h
  injection h with h1 h2
  rw [Ln.d_inj h1,CV h2]
open Classical in
noncomputable def netB (d:D):Bool:=decide (∃ n ls,d=jk n ls∧Good n ls)
theorem vB {n:Nat} {ls:List Ln} (G:Good n ls):netB (jk n ls)=true:=by unfold netB;exact @decide_eq_true _ (_) ⟨n,ls,rfl,G⟩
theorem MK {d:D} (h:netB d=true):∃ n ls,d=jk n ls∧Good n ls:=by unfold netB at h;exact @of_decide_eq_true _ (_) h
theorem nF {d:D} (h:∀ n ls,d=jk n ls->Good n ls->False):netB d=false:=by unfold netB;exact @decide_eq_false _ (_) fun ⟨n,ls,e,G⟩=>h n ls e G
theorem Rn {k:Nat} {ks:List Ln} (h1:1<=k) (h4:k<=4) (hl:ks.length<=6) (ho:∀ l∈ks,l.Ok k):netB (jk k ks)=J k ks:=by
 cases hJ:J k ks with
 | true=>exact vB ⟨h1,h4,hl,ho,hJ⟩
 | false=>
  refine nF fun n ls e G=>?_
  unfold jk gm at e
  injection e with e
  injection e with e1 e
  injection e with e2 e
  injection e1 with e1
  injection e2 with e2
  have:=CV e2
  subst this
  rw [show n=k by omega] at G
  rw [G.j] at hJ;cases hJ
theorem Rt {ds:List D} (h:ds.length≠2):netB (.tup ds)=false:=nF fun n ls e _=>by unfold jk at e;injection e with e;rw [e] at h;exact h rfl
theorem Io {d:D} (h:∀ ds,d ≠ .tup ds):netB d=false:=nF fun n ls e _=>h _ e
theorem Ro {a b:D} (h:aA a 1 4=false):netB (.tup [a,b])=false:=nF fun n ls e G=>by
 unfold jk at e
 injection e with e
 injection e with e1 e
 rw [e1] at h
 have h1:=G.n1;have h4:=G.n4
 have:(decide ((1:Int)<=(n:Int))&&decide ((n:Int)<=4))=false:=h
 rw [decide_eq_true (by omega),decide_eq_true (by omega)] at this
 cases this
theorem Rq {a b:D} (h:dZ b 0 6=false):netB (.tup [a,b])=false:=nF fun n ls e G=>by
 unfold jk gm at e
 injection e with e
 injection e with e1 e
 injection e with e2 e
 rw [e2,show dZ (.tup (ls.map Ln.d)) 0 6=decide ((ls.map Ln.d).length<=6) from zO _ 6,List.length_map,decide_eq_true G.l] at h
 cases h
theorem HY {n:Nat} {l:Ln} (h:l.Ok n):lA (n:Int) l.d=true:=by
 have h1:=h.a;have h2:=h.b;have h3:=h.ne;have h4:=h.s;have h5:=h.m
 show ((decide ((0:Int)<=(l.a:Int))&&decide ((l.a:Int)<=(n:Int) - 1))&&((decide ((0:Int)<=(l.b:Int))&&decide ((l.b:Int)<=(n:Int) - 1))&&(!((l.a:Int)==(l.b:Int))&&((decide ((1:Int)<=(l.s:Int))&&decide ((l.s:Int)<=9))&&(decide ((0:Int)<=(l.m:Int))&&decide ((l.m:Int)<=99))))))=true
 have e:((l.a:Int)==(l.b:Int))=false:=by simp only [beq_eq_false_iff_ne,ne_eq];omega
 rw [e,decide_eq_true (by omega),decide_eq_true (by omega),decide_eq_true (by omega),decide_eq_true (by omega),decide_eq_true (by omega),decide_eq_true (by omega),decide_eq_true (by omega),decide_eq_true (by omega)]
 rfl
theorem Rr {k:Int} {ds:List D} (h:ds.all (lA k)=false):netB (.tup [.int k,.tup ds])=false:=nF fun n ls e G=>by
 unfold jk gm at e
 injection e with e
 injection e with e1 e
 injection e with e2 e
 injection e2 with e2
 injection e1 with e1
 have:ds.all (lA k)=true:=by
  rw [e2,e1]
  refine List.all_eq_true.mpr fun d hd=>?_
  obtain ⟨l,hl,rfl⟩:=List.mem_map.mp hd
  exact HY (G.o l hl)
 rw [h] at this;cases this
theorem Ip {m:Nat} {d:D} (h:Th m d):(∃ a b,d = .tup [a,b]∧aA a 1 4=false)∨(∃ (k:Nat) (b:D),d = .tup [.int (k:Int),b]∧1<=k∧k<=4∧dZ b 0 6=false) ∨
  (∃ (k:Nat) (ls:List D),d = .tup [.int (k:Int),.tup ls]∧1<=k∧k<=4∧ls.length<=6∧(∀ d∈ls,Th m d)∧ls.all (lA (k:Int))=false) ∨
  (∃ (k:Nat) (ks:List Ln),d=jk k ks∧1<=k∧k<=4∧ks.length<=6 ∧ ∀ l∈ks,l.Ok k)∨(∃ ds,d = .tup ds∧ds.length≠2) ∨ ∀ ds,d ≠ .tup ds:=by
 rcases Tt d with ⟨a,b,rfl⟩ | h2 | hn
 ·obtain ⟨ht,_⟩:=h.of_tup
  have hb:=ht b (by simp)
  cases w1:aA a 1 4 with
  | false=>exact .inl ⟨a,b,rfl,w1⟩
  | true=>
   obtain ⟨n,rfl,hn⟩:=dg w1
   obtain ⟨k,rfl⟩:∃ k:Nat,n=(k:Int):=⟨n.toNat,by omega⟩
   cases w2:dZ b 0 6 with
   | false=>exact .inr (.inl ⟨k,b,rfl,by omega,by omega,w2⟩)
   | true=>
    rcases jU b with ⟨ls,rfl⟩ | hnt
    ·have hl:ls.length<=6:=by
      rw [show dZ (.tup ls) 0 6=decide (ls.length<=6) from zO ls 6] at w2
      exact of_decide_eq_true w2
     obtain ⟨hts,_⟩:=hb.of_tup
     cases ha':ls.all (lA (k:Int)) with
     | false=>exact .inr (.inr (.inl ⟨k,ls,rfl,by omega,by omega,hl,hts,ha'⟩))
     | true=>
      obtain ⟨ks,rfl,hk⟩:=zc ha'
      rw [List.length_map] at hl
      exact .inr (.inr (.inr (.inl ⟨k,ks,rfl,by omega,by omega,hl,hk⟩)))
    ·rw [gB hnt] at w2;cases w2
 ·exact .inr (.inr (.inr (.inr (.inl h2))))
 ·exact .inr (.inr (.inr (.inr (.inr hn))))
theorem uh {k:Nat} (h1:1<=k) (h4:k<=4):aA (.int (k:Int)) 1 4=true:=by
 show (decide ((1:Int)<=(k:Int))&&decide ((k:Int)<=4))=true
 rw [decide_eq_true (by omega),decide_eq_true (by omega)];rfl
theorem PQ {ls:List D} (h:ls.length<=6):dZ (.tup ls) 0 6=true:=by rw [show dZ (.tup ls) 0 6=decide (ls.length<=6) from zO ls 6,decide_eq_true h]
theorem Je {m:Nat} {d:D} (h:Th m d) {Q:D->Option D->Prop} (q:Q (.bl (netB d)) none):mH [d] Q:=by
 have hs:=h.s
 dsimp? only [mH,h.fz]
 refine fO h ?_
 rcases Ip h with ⟨a,b,rfl,w1⟩ | ⟨k,b,rfl,h1,h4,w2⟩ | ⟨k,ls,rfl,h1,h4,hl,hts,ha⟩ | ⟨k,ks,rfl,h1,h4,hl,hk⟩ | ⟨ds,rfl,hd⟩ | hn
 ·obtain ⟨ht,_⟩:=h.of_tup
  have ha:=ht a (by simp);have hb:=ht b (by simp)
  have er:dZ (.tup [a,b]) 2 2=true:=rfl
  rw [Ro w1] at q
  dsimp? only [er,hs,ha.s,hb.s,ha.fz]
  refine bj ha ?_
  dsimp? only [w1]
  exact q
 ·obtain ⟨ht,_⟩:=h.of_tup
  have ha:=ht (.int (k:Int)) (by simp);have hb:=ht b (by simp)
  have er:dZ (.tup [.int (k:Int),b]) 2 2=true:=rfl
  rw [Rq w2] at q
  dsimp? only [er,hs,hb.s]
  refine bj ha ?_
  dsimp? only [uh h1 h4,hb.fz,hb.s]
  refine fO hb ?_
  dsimp? only [w2]
  exact q
 ·obtain ⟨ht,_⟩:=h.of_tup
  have ha':=ht (.int (k:Int)) (by simp);have hb:=ht (.tup ls) (by simp)
  have er:dZ (.tup [.int (k:Int),.tup ls]) 2 2=true:=rfl
  have hsl:D.shs ls=true:=(km ls).mpr fun d hd=>(hts d hd).s
  have hfl:D.fzs ls=ls:=D.shs_fz _ hsl
  rw [Rr ha] at q
  dsimp? only [er,hsl,hfl]
  refine bj ha' ?_
  dsimp? only [uh h1 h4,hsl,hfl]
  refine fO hb ?_
  dsimp? only [PQ hl,hsl,hfl]
  refine aR (by omega) ?_
  (try dsimp? only)
  refine jF (fun d=>D.bl (lA (k:Int) d)) (fun ρ => ∃ x,ρ = [x,some (.int (k:Int))]) ⟨_,rfl⟩ ?_ ?_
  ·rintro d hd ρ ⟨x,rfl⟩ P hP
   dsimp? only [(hts d hd).fz]
   refine Ie (hts d hd) ?_
   dsimp? only [(hts d hd).s]
   exact hP _ ⟨_,rfl⟩
  rintro ρ ⟨x,rfl⟩
  dsimp? only [oM true (lA (k:Int)) ls,ha]
  exact q
 ·have er:dZ (jk k ks) 2 2=true:=rfl
  have hb:Th m (gm ks):=by obtain ⟨ht,_⟩:=h.of_tup;exact ht _ (by simp)
  have hl':(ks.map Ln.d).length<=6:=by rw [List.length_map];exact hl
  rw [Rn h1 h4 hl hk] at q
  dsimp? only [er,mL,wu]
  unfold jk gm
  dsimp? only [lW,mZ]
  refine bj (Th.int m _) ?_
  dsimp? only [uh h1 h4,lW,mZ]
  refine fO hb ?_
  unfold gm
  dsimp? only [PQ hl',lW,mZ,List.length_map]
  refine aR (by omega) ?_
  (try dsimp? only)
  refine bK Ln.d (fun l=>D.bl ((fun _=>true) l)) (fun ρ => ∃ x,ρ = [x,some (.int k)]) ⟨_,rfl⟩ ?_ ?_
  ·rintro l hlm ρ ⟨x,rfl⟩ P hP
   dsimp? only [Pk]
   refine Bc (hk l hlm) ?_
   dsimp? only
   exact hP _ ⟨_,rfl⟩
  rintro ρ ⟨x,rfl⟩
  have ha:ks.all (fun _=>true)=true:=by simp
  dsimp? only [oM true (fun _=>true) ks,ha,lW,mZ]
  refine um h4 (by omega) hk ?_
  unfold J at q
  (try dsimp? only)
  exact q
 ·rw [Rt hd] at q
  dsimp? only [Jq hd]
  exact q
 ·rw [Io hn] at q
  dsimp? only [gB hn]
  exact q
noncomputable def Bh:D->Int
 | .tup [.int k,_]=>k
 | _=>0
noncomputable def Ud (f:D->Bool):D->Bool
 | .tup ds=>ds.all f
 | _=>false
noncomputable def houseB:D->Bool
 | .tup [a,b,c,e]=>netB a&&(dZ b 0 3&&(Ud (dX (Bh a)) b&&(fG (Bh a) c&&(dZ e 1 3&&Ud (kZ (Bh a)) e))))
 | _=>false
theorem Ht {ds:List D} (h:ds.length≠4):houseB (.tup ds)=false:=by
 unfold houseB
 split
 ·rename_i z;cases z;exact absurd rfl h
 ·rfl
theorem Ba {d:D} (h:∀ ds,d ≠ .tup ds):houseB d=false:=by
 unfold houseB
 split
 ·exact absurd rfl (h _)
 ·rfl
theorem DG {d:D} {lo hi:Int} (h:dZ d lo hi=true):∃ ds:List D,d = .tup ds∧(ds.length:Int)<=hi:=by
 rcases jU d with ⟨ds,rfl⟩ | hn
 ·have h':(decide (lo<=(ds.length:Int))&&decide ((ds.length:Int)<=hi))=true:=h
  rw [Bool.and_eq_true] at h'
  exact ⟨ds,rfl,of_decide_eq_true h'.2⟩
 ·rw [gB hn] at h;cases h
theorem EY {m:Nat} {d:D} (h:Th m d) {Q:D->Option D->Prop} (q:Q (.bl (houseB d)) none):gF [d] Q:=by
 have hs:=h.s
 dsimp? only [gF,h.fz]
 refine fO h ?_
 rcases wj d with ⟨a,b,c,e,rfl⟩ | ⟨ds,rfl,hd⟩ | hn
 ·obtain ⟨ht,_⟩:=h.of_tup
  have ta:=ht a (by simp);have tb:=ht b (by simp);have tc:=ht c (by simp);have te:=ht e (by simp)
  have er:dZ (.tup [a,b,c,e]) 4 4=true:=rfl
  dsimp? only [er,hs,ta.s,tb.s,tc.s,te.s,ta.fz,tb.fz,tc.fz,te.fz]
  refine Je ta ?_
  cases w1:netB a with
  | false=>
   rw [show houseB (.tup [a,b,c,e])=false by simp [houseB,w1]] at q
   (try dsimp? only)
   exact q
  | true=>
   dsimp? only [ta.s,tb.s,tc.s,te.s,ta.fz,tb.fz,tc.fz,te.fz]
   refine fO tb ?_
   cases w2:dZ b 0 3 with
   | false=>
    rw [show houseB (.tup [a,b,c,e])=false by simp [houseB,w2]] at q
    (try dsimp? only)
    exact q
   | true=>
    dsimp? only [ta.s,tb.s,tc.s,te.s,ta.fz,tb.fz,tc.fz,te.fz]
    refine fO te ?_
    cases w3:dZ e 1 3 with
    | false=>
     rw [show houseB (.tup [a,b,c,e])=false by simp [houseB,w3]] at q
     (try dsimp? only)
     exact q
    | true=>
     obtain ⟨n,ls,rfl,G⟩:=MK w1
     obtain ⟨ws,rfl,hws⟩:=DG w2
     obtain ⟨es,rfl,hes⟩:=DG w3
     obtain ⟨tws,_⟩:=tb.of_tup
     obtain ⟨tes,_⟩:=te.of_tup
     have sw:D.shs ws=true:=(km ws).mpr fun d hd=>(tws d hd).s
     have se:D.shs es=true:=(km es).mpr fun d hd=>(tes d hd).s
     have fw:D.fzs ws=ws:=D.shs_fz _ sw
     have fe:D.fzs es=es:=D.shs_fz _ se
     have q':Q (.bl (netB (jk n ls)&&(dZ (.tup ws) 0 3&&(ws.all (dX (n:Int))&&(fG (n:Int) c&&(dZ (.tup es) 1 3&&es.all (kZ (n:Int)))))))) none:=q
     rw [w1,w2,w3,Bool.true_and,Bool.true_and,Bool.true_and] at q'
     dsimp? only [mL,wu,wC,sw,se,fw,fe]
     refine aR (by omega) ?_
     (try dsimp? only)
     refine jF (fun d=>D.bl (dX (n:Int) d)) (fun ρ => ∃ x,ρ = [x,some (.int (n:Int))]) ⟨_,rfl⟩ ?_ ?_
     ·rintro d hd ρ ⟨x,rfl⟩ P hP
      dsimp? only [(tws d hd).fz]
      refine Ko (tws d hd) ?_
      dsimp? only [(tws d hd).s]
      exact hP _ ⟨_,rfl⟩
     rintro ρ ⟨x,rfl⟩
     dsimp? only [oM true (dX (n:Int)) ws]
     cases w4:ws.all (dX (n:Int)) with
     | false=>
      rw [w4] at q'
      (try dsimp? only)
      exact q'
     | true=>
      rw [w4,Bool.true_and] at q'
      dsimp? only [mL,wu,wC,sw,se,fw,fe,tc.s,tc.fz]
      refine Gj tc ?_
      cases w5:fG (n:Int) c with
      | false=>
       rw [w5] at q'
       (try dsimp? only)
       exact q'
      | true=>
       rw [w5,Bool.true_and] at q'
       dsimp? only [mL,wu,wC,sw,se,fw,fe,tc.s,tc.fz]
       refine aR (by omega) ?_
       (try dsimp? only)
       refine jF (fun d=>D.bl (kZ (n:Int) d)) (fun ρ => ∃ x,ρ = [x,some (.int (n:Int))]) ⟨_,rfl⟩ ?_ ?_
       ·rintro d hd ρ ⟨x,rfl⟩ P hP
        dsimp? only [(tes d hd).fz]
        refine Gr (tes d hd) ?_
        dsimp? only [(tes d hd).s]
        exact hP _ ⟨_,rfl⟩
       rintro ρ ⟨x,rfl⟩
       dsimp? only [oM true (kZ (n:Int)) es]
       exact q'
 ·rw [Ht hd] at q
  dsimp? only [zP hd]
  exact q
 ·rw [Ba hn] at q
  dsimp? only [gB hn]
  exact q
structure PcS (x:Nat×Nat):Prop where
 a:1<=x.1
 b:x.1<=20
 c:x.2<=99
structure WkS (n:Nat) (w:Wk):Prop where
 p:w.p<n
 a:w.a<=20
 b:w.b<=99
 ps:(∃ x,w.ps=[x]∧PcS x) ∨ ∃ x y,w.ps=[x,y]∧PcS x∧PcS y∧x.2<=y.2
 c:w.c<=99
 g:1<=w.g∧w.g<=2
 e:1<=w.e∧w.e<=2
noncomputable def dpB:Nat->D->Bool
 | 0,.tup _=>false
 | 0,_=>true
 | k+1,.tup ds=>ds.all (dpB k)
 | _+1,_=>true
theorem jZ {k:Nat} {ds:List D} (h:∀ d∈ds,dpB k d=true):dpB (k+1) (.tup ds)=true:=by
 unfold dpB;exact List.all_eq_true.mpr h
theorem wn {i:Nat} {lo hi:Int} (h1:lo<=i) (h2:(i:Int)<=hi):aA (.int (i:Int)) lo hi=true:=by
 show (decide (lo<=(i:Int))&&decide ((i:Int)<=hi))=true
 rw [decide_eq_true h1,decide_eq_true h2];rfl
theorem Iw {x:Nat×Nat} (h:PcS x):cN (pcD x)=true:=by
 show (aA (.int (x.1:Int)) 1 20&&aA (.int (x.2:Int)) 0 99)=true
 have h1:=h.a;have h2:=h.b;have h3:=h.c
 rw [wn (by omega) (by omega),wn (by omega) (by omega)];rfl
theorem Wd {n:Nat} {w:Wk} (h:WkS n w):dX (n:Int) w.d=true:=by
 have h1:=h.p;have h2:=h.a;have h3:=h.b;have h4:=h.c;have h5:=h.g;have h6:=h.e
 have hp:je (.tup (w.ps.map pcD))=true:=by
  rcases h.ps with ⟨x,e,hx⟩ | ⟨x,y,e,hx,hy,hxy⟩
  ·rw [e];exact Iw hx
  ·rw [e]
   show (cN (pcD x)&&(cN (pcD y)&&decide (((x.2:Nat):Int)<=((y.2:Nat):Int))))=true
   rw [Iw hx,Iw hy,decide_eq_true (by omega)];rfl
 show (aA (.int (w.p:Int)) 0 ((n:Int) - 1)&&(aA (.int (w.a:Int)) 0 20&&(aA (.int (w.b:Int)) 0 99&&(je (.tup (w.ps.map pcD))&&(aA (.int (w.c:Int)) 0 99&&(aA (.int (w.g:Int)) 1 2&&(aA (.int (w.e:Int)) 1 2&&true)))))))=true
 rw [hp,wn (by omega) (by omega),wn (by omega) (by omega),wn (by omega) (by omega),wn (by omega) (by omega),wn (by omega) (by omega),wn (by omega) (by omega)];rfl
theorem Vy {n:Nat} {o:Option Sr} (h:∀ s,o=some s->s.p<n∧(1<=s.a∧s.a<=2)∧s.b<=s.a∧(1<=s.c∧s.c<=20)∧s.g<=s.c):fG (n:Int) (stD o)=true:=by
 cases o with
 | none=>rfl
 | some s=>
  obtain ⟨h1,h2,h3,h4,h5⟩:=h s rfl
  show (aA (.int (s.p:Int)) 0 ((n:Int) - 1)&&(aA (.int (s.a:Int)) 1 2&&(aA (.int (s.b:Int)) 0 (s.a:Int)&&(aA (.int (s.c:Int)) 1 20&&aA (.int (s.g:Int)) 0 (s.c:Int)))))=true
  rw [wn (by omega) (by omega),wn (by omega) (by omega),wn (by omega) (by omega),wn (by omega) (by omega),wn (by omega) (by omega)];rfl
theorem Us {n:Nat} {l:List Wt} (hl:l.length<=3) (h:∀ t∈l,t.p<n∧t.s<=30∧t.w<=100):kZ (n:Int) (hrD l)=true:=by
 show (decide ((l.map Wt.d).length<=3)&&(l.map Wt.d).all (jW (n:Int)))=true
 rw [List.length_map,decide_eq_true hl,Bool.true_and,List.all_eq_true]
 intro d hd
 obtain ⟨t,ht,rfl⟩:=List.mem_map.mp hd
 obtain ⟨h1,h2,h3⟩:=h t ht
 show (aA (.int (t.p:Int)) 0 ((n:Int) - 1)&&(aA (.int (t.s:Int)) 0 30&&aA (.int (t.w:Int)) 0 100))=true
 rw [wn (by omega) (by omega),wn (by omega) (by omega),wn (by omega) (by omega)];rfl
structure Hse (d:D):Prop where
 b:houseB d=true
 t:Th 8 d
 c:d.clean=true
 p:dpB 5 d=true
theorem Wa (w:Wk) (h:w.ps.length<=2):Th 8 w.d:=by
 refine Th.tup (fun d hd=>?_) (by simp)
 simp only [List.mem_cons,List.not_mem_nil,or_false] at hd
 rcases hd with rfl | rfl | rfl | rfl | rfl | rfl | rfl | rfl
 ·exact Th.int _ _
 ·exact Th.int _ _
 ·exact Th.int _ _
 ·refine Th.tup (fun d hd=>?_) (by rw [List.length_map];omega)
  obtain ⟨x,_,rfl⟩:=List.mem_map.mp hd
  refine Th.tup (fun d hd=>?_) (by simp)
  simp only [List.mem_cons,List.not_mem_nil,or_false] at hd
  rcases hd with rfl | rfl <;> exact Th.int _ _
 ·exact Th.int _ _
 ·exact Th.int _ _
 ·exact Th.int _ _
 ·exact Th.bl _ _
theorem VV (o:Option Sr):Th 8 (stD o):=by
 cases o with
 | none=>exact Th.non _
 | some s=>
  refine Th.tup (fun d hd=>?_) (by simp)
  simp only [List.mem_cons,List.not_mem_nil,or_false] at hd
  rcases hd with rfl | rfl | rfl | rfl | rfl <;> exact Th.int _ _
theorem VR (l:List Wt) (h:l.length<=3):Th 8 (hrD l):=by
 refine Th.tup (fun d hd=>?_) (by rw [List.length_map];omega)
 obtain ⟨t,_,rfl⟩:=List.mem_map.mp hd
 refine Th.tup (fun d hd=>?_) (by simp)
 simp only [List.mem_cons,List.not_mem_nil,or_false] at hd
 rcases hd with rfl | rfl | rfl <;> exact Th.int _ _
theorem Tp (l:Ln):Th 8 l.d:=by
 refine Th.tup (fun d hd=>?_) (by simp)
 simp only [List.mem_cons,List.not_mem_nil,or_false] at hd
 rcases hd with rfl | rfl | rfl | rfl <;> exact Th.int _ _
theorem Ou {n:Nat} {ls:List Ln} (h:ls.length<=6):Th 8 (jk n ls):=by
 refine Th.tup (fun d hd=>?_) (by simp)
 simp only [List.mem_cons,List.not_mem_nil,or_false] at hd
 rcases hd with rfl | rfl
 ·exact Th.int _ _
 ·refine Th.tup (fun d hd=>?_) (by rw [List.length_map];omega)
  obtain ⟨l,_,rfl⟩:=List.mem_map.mp hd
  exact Tp l
theorem QD {n:Nat} {ls:List Ln} {ws:List Wk} {o:Option Sr} {hs:List (List Wt)} (G:Good n ls) (hw:ws.length<=3) (w:∀ w∈ws,WkS n w) (ho:∀ s,o=some s->s.p<n∧(1<=s.a∧s.a<=2)∧s.b<=s.a∧(1<=s.c∧s.c<=20)∧s.g<=s.c)
  (h1:1<=hs.length) (h3:hs.length<=3) (hh:∀ l∈hs,l.length<=3 ∧ ∀ t∈l,t.p<n∧t.s<=30∧t.w<=100):Hse (.tup [jk n ls,.tup (ws.map Wk.d),stD o,.tup (hs.map hrD)]):=by
 have hps:∀ w'∈ws,w'.ps.length<=2:=fun w' hw'=>by rcases (w w' hw').ps with ⟨x,e,_⟩ | ⟨x,y,e,_⟩ <;> rw [e] <;> simp
 refine ⟨?_,Th.tup (fun d hd=>?_) (by simp),?_,?_⟩
 ·show (netB (jk n ls)&&(dZ (.tup (ws.map Wk.d)) 0 3&&((ws.map Wk.d).all (dX (n:Int))&&(fG (n:Int) (stD o)&&(dZ (.tup (hs.map hrD)) 1 3&&(hs.map hrD).all (kZ (n:Int)))))))=true
  have e1:dZ (.tup (ws.map Wk.d)) 0 3=true:=by rw [show dZ (.tup (ws.map Wk.d)) 0 3=decide ((ws.map Wk.d).length<=3) from zO _ 3,List.length_map,decide_eq_true hw]
  have e2:dZ (.tup (hs.map hrD)) 1 3=true:=by
   show (decide ((1:Int)<=((hs.map hrD).length:Int))&&decide (((hs.map hrD).length:Int)<=3))=true
   rw [List.length_map,decide_eq_true (by omega),decide_eq_true (by omega)];rfl
  have e3:(ws.map Wk.d).all (dX (n:Int))=true:=List.all_eq_true.mpr fun d hd=>by
   obtain ⟨w',hw',rfl⟩:=List.mem_map.mp hd
   exact Wd (w w' hw')
  have e4:(hs.map hrD).all (kZ (n:Int))=true:=List.all_eq_true.mpr fun d hd=>by
   obtain ⟨l,hl,rfl⟩:=List.mem_map.mp hd
   exact Us (hh l hl).1 (hh l hl).2
  rw [vB G,e1,e2,e3,e4,Vy ho];rfl
 ·simp only [List.mem_cons,List.not_mem_nil,or_false] at hd
  rcases hd with rfl | rfl | rfl | rfl
  ·exact Ou G.l
  ·refine Th.tup (fun d hd=>?_) (by rw [List.length_map];omega)
   obtain ⟨w',hw',rfl⟩:=List.mem_map.mp hd
   exact Wa w' (hps w' hw')
  ·exact VV o
  ·refine Th.tup (fun d hd=>?_) (by rw [List.length_map];omega)
   obtain ⟨l,hl,rfl⟩:=List.mem_map.mp hd
   exact VR l (hh l hl).1
 ·show ((jk n ls).clean&&(D.cleans (ws.map Wk.d)&&((stD o).clean&&(D.cleans (hs.map hrD)&&true))))=true
  rw [uW,KC,Pg,Kz];rfl
 ·have iN:∀ (k:Nat) (i:Int),dpB k (.int i)=true:=fun k i=>by cases k <;> rfl
  refine jZ fun d hd=>?_
  simp only [List.mem_cons,List.not_mem_nil,or_false] at hd
  rcases hd with rfl | rfl | rfl | rfl
  ·refine jZ fun d hd=>?_
   simp only [List.mem_cons,List.not_mem_nil,or_false] at hd
   rcases hd with rfl | rfl
   ·exact iN _ _
   ·refine jZ fun d hd=>?_
    obtain ⟨l,_,rfl⟩:=List.mem_map.mp hd
    rfl
  ·refine jZ fun d hd=>?_
   obtain ⟨w',_,rfl⟩:=List.mem_map.mp hd
   refine jZ fun d hd=>?_
   simp only [List.mem_cons,List.not_mem_nil,or_false] at hd
   rcases hd with rfl | rfl | rfl | rfl | rfl | rfl | rfl | rfl
   ·rfl
   ·rfl
   ·rfl
   ·refine jZ fun d hd=>?_
    obtain ⟨x,_,rfl⟩:=List.mem_map.mp hd
    rfl
   ·rfl
   ·rfl
   ·rfl
   ·rfl
  ·cases o <;> rfl
  ·refine jZ fun d hd=>?_
   obtain ⟨l,_,rfl⟩:=List.mem_map.mp hd
   refine jZ fun d hd=>?_
   obtain ⟨t,_,rfl⟩:=List.mem_map.mp hd
   rfl
end Z
namespace L2
open PySem PySem.Spec PyProof.Rows
noncomputable def D.strO:D->Option Str
 | .str x=>some x
 | _=>none
theorem tY {d:D} {x:Str}:d.strO=some x↔d = .str x:=by
 cases d <;> simp [D.strO]
end L2
namespace Z
open PySem L2
end Z
namespace L2
open PySem PySem.Spec PyProof.Rows
section
variable {X:Cx} {K:PySem.W.Frag}
theorem Room.units65 {k:Nat} {A:Around} (r:Room k A):A.units+65<cLine:=by have:=r.un;omega
end
section
open PySem.Builtin PySem.Builtin.Str
theorem Aq {prog:Program} {w:World} {A:Around} {E:Value->Shared->Prop} {s:Shared} {a b:Str} {t u:Tok} {Q:Value->Shared->Prop} (hb:(b.length==0)=false) (hz:a.length+2<=sizeLine)
  (h:∀ (l:List (Str×Tok)) (k:Nat),l.map (·.1)=Txt.split a b->Q (.ref s.heap.objs.size) { s with heap:=s.heap.push (seqObj "list" (strValues l).toArray 0),toks:=k }) :
  wpAny (model prog w) A (call (.builtin "str.split") [.str a t,.str b u]) Q E s:=by
 have nb:(partsBetween a (occurrences a b 0 a.length (a.length+1)) b.length).length<=sizeLine:=by
  have oc:=StrLaws.occ_length_le a b 0 a.length (a.length+1)
  rw [length_partsBetween];omega
 by_cases c:(decide (a.length<b.length)||decide (strKind a<strKind b))=true
 ·have es:Txt.split a b=[a]:=by unfold Txt.split;rw [if_pos c]
  exact call_meets PySem.F.slot_str_split (typeIs_str _ _ _) PySem.F.entry_str_split (PySem.F.args_str_split_2 _ _) (meets_str_split_cannot_occur a b t u c) (h [(a,t)] s.toks es.symm)
 ·have c:=Bool.eq_false_iff.mpr c
  by_cases f:(occurrences a b 0 a.length (a.length+1)).isEmpty=true
  ·have es:Txt.split a b=[a]:=by unfold Txt.split;rw [if_neg (ne_true_of_eq_false c),if_pos f]
   exact call_meets PySem.F.slot_str_split (typeIs_str _ _ _) PySem.F.entry_str_split (PySem.F.args_str_split_2 _ _) (meets_str_split_not_found a b t u c hb f) (h [(a,t)] s.toks es.symm)
  ·have f:=Bool.eq_false_iff.mpr f
   have es:Txt.split a b=partsBetween a (occurrences a b 0 a.length (a.length+1)) b.length:=by unfold Txt.split;rw [if_neg (ne_true_of_eq_false c),if_neg (ne_true_of_eq_false f)]
   have q:=h (numbered s.toks (partsBetween a (occurrences a b 0 a.length (a.length+1)) b.length)) (s.toks+(partsBetween a (occurrences a b 0 a.length (a.length+1)) b.length).length) (by rw [es];exact numbered_texts _ _)
   refine call_meets PySem.F.slot_str_split (typeIs_str _ _ _) PySem.F.entry_str_split (PySem.F.args_str_split_2 _ _) (meets_str_split_sep a b t u c hb f (by omega) nb) ?_
   rw [strsFrom_eq]
   exact q
end
theorem qD:∀ l:List (Str×Tok),Vals ((l.map (·.1)).map V.str) (strValues l)
 | []=>.nil
 | (x,t) :: l=>.cons ⟨t,rfl⟩ (qD l)
noncomputable def Jp:V->List V->Hp->VK->Prop:=fun x vs H Q=>∃ a b:Str,x = .str a∧vs=[.str b]∧(b.length==0)=false∧a.length+2<=sizeLine∧(Txt.split a b).length<=sizeLine ∧ ∀ p,H p=none->Q (.ref p) (upd H p (.lst ((Txt.split a b).map V.str)))
theorem Ij {X:Cx}:MtR X "str.split" Jp:=by
 intro pins s σ H x xs v us Q I rx rs h
 obtain ⟨a,b,rfl,rfl,hb,hz,hn,q⟩:=h
 obtain ⟨t,rfl⟩:=rx
 obtain ⟨v1,rfl,r1⟩:=vals1 rs
 obtain ⟨u,rfl⟩:=r1
 refine Aq hb hz fun l k e=>?_
 have hfr:H s.heap.objs.size=none:=I.hok.fresh (Nat.le_refl _)
 refine ⟨.ref s.heap.objs.size,_,I.laid (o:=.lst ((Txt.split a b).map V.str)) (fun b ob z=>Heap.get?_push_of_some _ z) (Nat.le_refl _) ⟨by rw [List.length_map];exact hn,strValues l,0,by rw [← e];exact qD l,Heap.get?_push_size _ rfl⟩,rfl,q _ hfr⟩
noncomputable def fM (sep:Str):List D->Option D
 | [.str x]=>if x.length+2<=sizeLine∧(Txt.split x sep).length<=sizeLine then some (.lst true ((Txt.split x sep).map D.str)) else none
 | _=>none
theorem Rps.ofStrs {K:PySem.W.Frag} {F:Addr->Prop} {H:Hp}:∀ xs:List Str,Rps K F H (xs.map V.str) (xs.map D.str) []
 | []=>.nil
 | x :: xs=>.cons (L:=[]) (M:=[]) (.str x) (Rps.ofStrs xs)
theorem yJ {K:PySem.W.Frag} {sep:Str} (hs:(sep.length==0)=false):bM K (fun vs H Q=>∃ x,vs=[x]∧Jp x [.str sep] H Q ∧ ∃ a,x = .str a) (fM sep):=by
 intro F H vs ds f Q r e q
 unfold fM at e
 split at e
 ·split at e
  ·rename_i hz
   cases e
   obtain ⟨x,L,rfl,r1⟩:=r.one
   cases r1.isStr
   exact ⟨_,rfl,⟨_,_,rfl,rfl,hs,hz.1,hz.2,fun p hp=>q _ _ _ (.list hp (Rps.ofStrs _))⟩,_,rfl⟩
  ·cases e
 ·cases e
theorem nH {X:Cx} {sep:Str} {e:Expr} {o:Opd} {j} {p apos cpos:Pos} (he:SO X e o) (hn:(sep.length==0)=false:=by decide)
  (hbase:attributeBase e "split" X.env (eval e X.env)=eval e X.env:=by rfl)
  (hfew:((backTo cpos (starEach [.Constant (.str sep) j p] X.env)).all (fun x=>!x.1)&&(backToKw cpos (keywordEach [] X.env)).all (fun x=>x.1.isSome)
   && decide (([.Constant (.str sep) j p]:List Expr).length+([]:List Keyword).length+(if ([]:List Keyword).isEmpty then 0 else 1)<30))=true:=by rfl)
  (hline:(apos.endLine==cpos.line)=true:=by rfl) :
  SE X (.Call (.Attribute e "split" apos) [.Constant (.str sep) j p] [] cpos) (sDo (fM sep) [o]):=
 (vC PySem.F.plainAttrs_str PySem.F.slot_str_split PySem.F.type_str_split Ij he (wZ Bu Bt) hbase hfew hline rfl rfl).wk fun σ H Q h=>by
  have t:=gK (yJ hn) h
  refine jB (fun x H1 t1=>?_) (eH t)
  obtain ⟨F,ρ,Ls,R,Qd,w,q,k⟩:=t1
  obtain ⟨x',e1,r1,a,e2⟩:=k [] H1 [] ρ F Ls [] .nil w Step.refl q
  cases e1
  subst e2
  exact ⟨rfl,r1⟩
noncomputable def yx:List D->Option D
 | [.str x]=>if x.length<=640 then (PySem.intText? x).map D.int else none
 | _=>none
theorem Em {X:Cx}:gO X (.type "int") (fun xs H Q=>∃ (x:Str) (n:Int),xs=[.str x]∧x.length<=640∧PySem.intText? x=some n∧Q (.int n) H):=by
 intro pins s σ H xs us Q I rs h
 obtain ⟨x,n,rfl,hl,hn,q⟩:=h
 obtain ⟨u,rfl,r1⟩:=vals1 rs
 obtain ⟨t,rfl⟩:=r1
 exact PySem.W.KIN.call_text hn hl ⟨.int n,H,I.tok _,⟨_,rfl⟩,q⟩
theorem Ew {K:PySem.W.Frag}:bM K (fun xs H Q=>∃ (x:Str) (n:Int),xs=[.str x]∧x.length<=640∧PySem.intText? x=some n∧Q (.int n) H) yx:=by
 intro F H vs ds f Q r e q
 unfold yx at e
 split at e
 ·split at e
  ·rename_i hz
   obtain ⟨n,hn,rfl⟩:=Option.map_eq_some_iff.mp e
   obtain ⟨x,L,rfl,r1⟩:=r.one
   cases r1.isStr
   exact ⟨_,n,rfl,hz,hn,q _ _ _ (.ofFlat rfl)⟩
  ·cases e
 ·cases e
noncomputable def xG (i:Nat) (o:Opd):aZ:=fun ρ Q=>∃ sep:Str,ρ[i]? = some (some (.str sep))∧sDo (cL sep) [o] ρ Q
theorem JB {X:Cx} {x:Str} {i:Nat} {e:Expr} {o:Opd} {p apos cpos:Pos} (hx:PE X (.Name x p) (JV i)) (ha:SA X [e] [o]) (hs:starEach [e] X.env=[(false,eval e X.env)]:=by rfl)
  (hbase:attributeBase (.Name x p) "join" X.env (eval (.Name x p) X.env)=eval (.Name x p) X.env:=by rfl)
  (hfew:((backTo cpos (starEach [e] X.env)).all (fun x=>!x.1)&&(backToKw cpos (keywordEach [] X.env)).all (fun x=>x.1.isSome)
   && decide (([e]:List Expr).length+([]:List Keyword).length+(if ([]:List Keyword).isEmpty then 0 else 1)<30))=true:=by rfl)
  (hline:(apos.endLine==cpos.line)=true:=by rfl) :
  SE X (.Call (.Attribute (.Name x p) "join" apos) [e] [] cpos) (xG i o):=
 (vC PySem.F.plainAttrs_str PySem.F.slot_str_join PySem.F.type_str_join CZ hx ha hbase hfew hline hs rfl).wk fun σ H Q hh=>by
  obtain ⟨F,ρ,Ls,R,Qd,w,⟨sep,e1,q⟩,k⟩:=hh
  obtain ⟨v1,h1,r1⟩:=w.sl i _ e1
  cases r1.isStr
  exact ⟨_,h1,rfl,gK vd ⟨F,ρ,Ls,R,Qd,w,q,k⟩⟩
noncomputable def sgn (x:Str):List Str:=x.cps.toList.map fun c=>⟨#[c]⟩
noncomputable def Its (x:Str):It:=⟨fun i _=>i<x.cps.size,fun i H v H'=>H'=H ∧ ∃ c,x.cps[i]? = some c∧v = .str ⟨#[c]⟩,fun i _=>x.cps.size<=i⟩
theorem Ad {P:Program} {w:World} {K:PySem.W.Frag} {tg:Expr} {it:Addr} {x:Str} {t:Tok} {ty:String}
  (hn:["enumerate", "zip", "dict_itemiterator", "dict_reverseitemiterator", "odict_iterator", "itertools.zip_longest", "itertools.pairwise"].contains ty=false)
  (hi:∀ {A:Around} {E:Value->Shared->Prop} {s:Shared} {i c:Nat} {Q:Option Value->Shared->Prop},s.heap.IsStrIter it ty x t i->x.cps[i]? = some c->(∀ h',h'.IsStrIter it ty x t (i+1)->Heap.SameBut it s.heap h'->Q (some (.str ⟨#[c]⟩ s.toks)) { s with heap:=h',toks:=s.toks+1 })->wpAny (model P w) A (pyNext (.ref it)) Q E s)
  (he:∀ {A:Around} {E:Value->Shared->Prop} {s:Shared} {i:Nat} {Q:Option Value->Shared->Prop},A.handled=none->s.heap.IsStrIter it ty x t i->x.cps[i]? = none->(∀ h',Heap.ExtBut it s.heap h'->Q none { s with heap:=h' })->wpAny (model P w) A (pyNext (.ref it)) Q E s)
  (hs:∀ {A:Around} {E:Value->Shared->Prop} {s:Shared} {i:Nat} {Q:Value->Shared->Prop},s.heap.IsStrIter it ty x t i->Q (.ref it) s->wpAny (model P w) A (pyIter (.ref it)) Q E s) :
  Turn P w K tg (Its x) [it] it (fun i h=>h.IsStrIter it ty x t i) where
 mem:=List.mem_singleton.mpr rfl
 obj:=fun i h st b hb=>by
  cases List.mem_singleton.mp hb
  obtain ⟨o,e,c,d⟩:=st
  exact ⟨o,e,fun v z=>by rw [d] at z;cases z⟩
 keep:=fun i h h' st k=>by
  obtain ⟨o,e,r⟩:=st
  exact ⟨o,k it (List.mem_singleton.mpr rfl) o e,r⟩
 item:=by
  intro X hP hw hK hc i pins s σ H E I hf st hg
  subst hP hw hK
  obtain ⟨f0,f1,f2,f3,f4,f5⟩:=hf it (List.mem_singleton.mpr rfl)
  have hx:x.cps[i]? = some x.cps[i]:=Array.getElem?_eq_getElem hg
  refine hi st hx fun h' st' sb=>?_
  have I1:Inv X pins σ H { s with heap:=h',toks:=s.toks+1 }:=I.turned (t':=s.toks+1) (fun b o hb e=>(sb.2 b hb).trans e) f0 f1 f3 f4 f5
  obtain ⟨o,e,c,d⟩:=id st'
  exact ⟨_,rfl,CK (s:={ s with heap:=h',toks:=s.toks+1 }) e c d hn ⟨.str ⟨#[x.cps[i]]⟩,H,I1,⟨_,rfl⟩,⟨rfl,_,hx,rfl⟩,st',fun b hb=>(hf b hb).1⟩⟩
 done:=by
  intro X hP hw hK hc i pins s σ H E I hf st hg
  subst hP hw hK
  obtain ⟨f0,f1,f2,f3,f4,f5⟩:=hf it (List.mem_singleton.mpr rfl)
  exact he (I.ok.hd hc) st (Array.getElem?_eq_none hg) fun h' eb=>⟨rfl,I.turned (t':=s.toks) (fun b o hb e=>eb b o hb e) f0 f1 f3 f4 f5⟩
 self:=fun _ _ _ _ _ st h=>hs st h
section
variable {X:Cx} {tg:Expr}
theorem RZ {l:Expr} {tl:TE} (hl:PE X l tl):PI X tg l (fun σ H R=>tl σ H fun v H1=>∃ x:Str,v = .str x∧R (Its x) H1):=by
 intro pins s σ H R I h
 refine thn (hl pins s σ H _ I h) fun v s1 hh=>?_
 obtain ⟨v',H1,I1,r1,x,rfl,q⟩:=hh
 obtain ⟨t,rfl⟩:=r1
 by_cases ha:x.cps.all (· < 128)=true
 ·refine wpAny_pyIter_ascii ha ?_
  refine ⟨s1.heap.objs.size,[s1.heap.objs.size],_,_,H1,rfl,I1.kept (t':=s1.toks) fun b o e=>Heap.get?_push_of_some _ e,Ad (by decide) wpAny_pyNext_ascii_item wpAny_pyNext_ascii_end wpAny_pyIter_striter_ascii,⟨_,Heap.get?_push_size _ rfl,rfl,rfl⟩,fun b hb=>?_,q⟩
  cases List.mem_singleton.mp hb
  exact I1.fpOk (Nat.le_refl _) (I1.hok.fresh (Nat.le_refl _))
 ·refine wpAny_pyIter_wide (Bool.eq_false_iff.mpr ha) ?_
  refine ⟨s1.heap.objs.size,[s1.heap.objs.size],_,_,H1,rfl,I1.kept (t':=s1.toks) fun b o e=>Heap.get?_push_of_some _ e,Ad (by decide) wpAny_pyNext_wide_item wpAny_pyNext_wide_end wpAny_pyIter_striter_wide,⟨_,Heap.get?_push_size _ rfl,rfl,rfl⟩,fun b hb=>?_,q⟩
  cases List.mem_singleton.mp hb
  exact I1.fpOk (Nat.le_refl _) (I1.hok.fresh (Nat.le_refl _))
noncomputable def Ly (s:aZ):lK:=fun ρ Q=>s ρ fun d ρ'=>∃ x:Str,d = .str x∧x.length<=sizeLine∧Q ((sgn x).map D.str) ρ'
theorem Te {e:Expr} {s:aZ} (he:SE X e s):SI X tg e (Ly s):=
 (RZ he).wk fun σ H Q hh=>by
  obtain ⟨F,ρ,Ls,R,Qd,w,q,k⟩:=hh
  refine ⟨F,ρ,Ls,R,_,w,q,fun v H1 d ρ1 F1 Ls1 Ld r1 w1 s1 q1=>?_⟩
  obtain ⟨x,rfl,hz,q1⟩:=q1
  have w2:=w1.give
  have s2:=s1.trans (Step.give (M:=Ld))
  cases r1.isStr
  have hl:((sgn x).map V.str).length=x.cps.size:=by simp [sgn]
  refine ⟨x,rfl,k _ H1 _ ρ1 _ Ls1 w2 s2 (Ag (vs:=(sgn x).map V.str) (fun H2=>True) (fun F2 H2 k=>trivial) (Rps.ofStrs _) (by rw [List.length_map];unfold sgn;rw [List.length_map,Array.length_toList];exact hz) ?_ ?_ ?_) q1⟩
  ·intro i H2 v _ e
   have:=(List.getElem?_eq_some_iff.mp e).1
   rw [hl] at this
   exact this
  ·intro i H2 y H3 v _ e z
   obtain ⟨rfl,c,hc,rfl⟩:=z
   refine ⟨rfl,?_⟩
   have e2:((sgn x).map V.str)[i]? = some (.str ⟨#[c]⟩):=by
    unfold sgn
    rw [List.map_map,List.getElem?_map,Array.getElem?_toList,hc];rfl
   rw [e2] at e
   exact Option.some.inj e
  ·intro H2 _
   show x.cps.size<=_
   rw [hl];exact Nat.le_refl _
end
noncomputable def KQ:List D->Option D
 | [.str a,.str b]=>some (.bl (!(Builtin.Str.occurrences b a 0 b.length 1).isEmpty))
 | _=>none
theorem GX {K:PySem.W.Frag}:bM K (fun vs H Q=>∃ x y,vs=[x,y] ∧ ∃ i j,x = .str i∧y = .str j∧Q (.bl (!(Builtin.Str.occurrences j i 0 j.length 1).isEmpty)) H) KQ:=by
 intro F H vs ds f Q r e q
 unfold KQ at e
 split at e
 ·cases e
  obtain ⟨x,y,L,M,rfl,r1,r2⟩:=r.two
  cases r1.isStr;cases r2.isStr
  exact ⟨_,_,rfl,_,_,rfl,rfl,q _ _ _ (.ofFlat rfl)⟩
 ·cases e
noncomputable def zQ (s:aZ):aZ:=fun ρ Q=>s ρ fun d ρ'=>∃ i:Int,d = .int i∧i.natAbs.log2<1920∧Q (.str (toString i)) ρ'
theorem Nh {X:Cx} {e:Expr} {te:TE} {pos:Pos} (he:PE X e te):PE X (.FormattedValue e (-1) none pos) (fun σ H Q=>te σ H fun v H1=>∃ i:Int,v = .int i∧i.natAbs.log2<1920∧Q (.str (toString i)) H1):=by
 intro pins s σ H Q I h
 refine FormattedValue_plain (thn (he pins s σ H _ I h) fun v s1 hh=>?_)
 obtain ⟨x,H1,I1,r1,i,rfl,hz,q⟩:=hh
 obtain ⟨t,rfl⟩:=r1
 exact wpAny_formatField_int hz ⟨.str _,H1,I1.tok _,⟨_,rfl⟩,q⟩
theorem NQ {X:Cx} {e:Expr} {s:aZ} {pos:Pos} (he:SE X e s):SE X (.FormattedValue e (-1) none pos) (zQ s):=
 (Nh he).wk fun σ H Q h=>by
  obtain ⟨F,ρ,Ls,R,Qd,w,q,k⟩:=h
  refine ⟨F,ρ,Ls,R,_,w,q,fun v H1 d ρ1 F1 Ls1 Ld r1 w1 s1 q1=>?_⟩
  obtain ⟨i,rfl,hz,q2⟩:=q1
  exact ⟨i,r1.isInt,hz,k _ H1 _ ρ1 F1 Ls1 [] (.str _) (w1.less (List.sublist_append_right Ld R)) (s1.more fun a h=>absurd h (by simp)) q2⟩
noncomputable def tM (s1 s2:aZ):aZ:=fun ρ Q=>s1 ρ fun d ρ1=>∃ a:Str,d = .str a∧a.length<=sizeLine∧s2 ρ1 fun e ρ2=>∃ b:Str,e = .str b∧(a++b).length<=sizeLine∧Q (.str (a++b)) ρ2
theorem Ja {X:Cx} {e1 e2:Expr} {t1 t2:TE} {pos:Pos} (h1:PE X e1 t1) (h2:PE X e2 t2):PE X (.JoinedStr [e1,e2] pos) (fun σ H Q=>t1 σ H fun x H1=>∃ a:Str,x = .str a∧a.length<=sizeLine∧t2 σ H1 fun y H2=>∃ b:Str,y = .str b∧(a++b).length<=sizeLine∧Q (.str (a++b)) H2):=by
 intro pins s σ H Q I h
 refine JoinedStr_many ?_
 refine joinParts_cons (thn (h1 pins s σ H _ I h) fun v1 s1 hh=>?_)
 obtain ⟨x,H1,I1,r1,a,rfl,hz1,q1⟩:=hh
 obtain ⟨u1,rfl⟩:=r1
 refine ⟨by rw [empty_app];exact hz1,?_⟩
 rw [empty_app]
 refine joinParts_cons (thn (h2 pins s1 σ H1 _ I1 q1) fun v2 s2 hh=>?_)
 obtain ⟨y,H2,I2,r2,b,rfl,hz2,q2⟩:=hh
 obtain ⟨u2,rfl⟩:=r2
 exact ⟨hz2,joinParts_nil ⟨.str _,H2,I2.tok _,⟨_,rfl⟩,q2⟩ hz2⟩
theorem Jz {X:Cx} {e1 e2:Expr} {s1 s2:aZ} {pos:Pos} (h1:SE X e1 s1) (h2:SE X e2 s2):SE X (.JoinedStr [e1,e2] pos) (tM s1 s2):=
 (Ja h1 h2).wk fun σ H Q h=>by
  obtain ⟨F,ρ,Ls,R,Qd,w,q,k⟩:=h
  refine ⟨F,ρ,Ls,R,_,w,q,fun v H1 d ρ1 F1 Ls1 Ld r1 w1 st1 q1=>?_⟩
  obtain ⟨a,rfl,hz1,q1⟩:=q1
  refine ⟨a,r1.isStr,hz1,F1,ρ1,Ls1,Ld++R,_,w1,q1,fun v2 H2 d2 ρ2 F2 Ls2 Ld2 r2 w2 st2 q2=>?_⟩
  obtain ⟨b,rfl,hz2,q2⟩:=q2
  refine ⟨b,r2.isStr,hz2,k _ H2 _ ρ2 F2 Ls2 [] (.str _) (w2.less ?_) ((st1.trans st2).more fun a h=>absurd h (by simp)) q2⟩
  exact (List.sublist_append_right Ld R).trans (List.sublist_append_right Ld2 _)
theorem Jx {X:Cx} {x y:Str} {pos:Pos} (hg:Gl X x) (hm:∃ t,X.mg x=some (.str y t)) (hd:(x==("__debug__" : Str))=false:=by decide):SE X (.Name x pos) (sC (.str y)):=by
 obtain ⟨t,hm⟩:=hm
 exact (pB (v:=.str y) hg hm ⟨t,rfl⟩ hd).wk fun _ _ _ h=>gA rfl h
theorem Eh {prog:Program} {w:World} {A:Around} {E:Value->Shared->Prop} {s:Shared} {items:Array Value} {x:Value} {e:Value->Bool} {j:Nat} {Q:Option PySem.Fin×Unit->Shared->Prop} {f:Nat->Option PySem.Fin×Unit->Sem (ForInStep (Option PySem.Fin×Unit))}
  (hf:∀ i r y,items[i]? = some y->f i r=(do
   let c ← eqBool y x
   if c=true then do
    let r ← retInt (i:Int)
    pure (ForInStep.done (some r,()))
   else pure (ForInStep.yield (none,()))))
  (he:∀ y,y∈items->MeetsSeq.EqGives y x (e y)) (hj:j<items.size) (hit:e items[j]=true) (hno:∀ m (hm:m<items.size),m<j->e items[m]=false)
  (hQ:wpAny (model prog w) A (retInt (j:Int)) (fun r s'=>Q (some r,()) s') E s):∀ k i,i<=j->j<i+k->wpAny (model prog w) A (forIn (List.range' i k 1) ((none,()):Option PySem.Fin×Unit) f) Q E s
 | 0,i,h1,h2=>by omega
 | k+1,i,h1,h2=>by
  have hi:i<items.size:=by omega
  have hx:items[i]? = some items[i]:=Array.getElem?_eq_getElem hi
  rw [List.range'_succ,List.forIn_cons,hf i _ _ hx]
  refine wpAny_bind ?_
  refine wpAny_bind (he _ (Array.getElem_mem hi) prog w _ _ _ _ ?_)
  by_cases c:i=j
  ·subst c
   rw [hit]
   refine wpAny_bind (wpAny_mono hQ (fun r s' h=>wpAny_pure (wpAny_pure h)) fun _ _ h=>h)
  ·rw [hno i hi (by omega)]
   exact wpAny_pure (Eh hf he hj hit hno hQ k (i+1) (by omega) (by omega))
theorem Ac {l:Addr} {items:Array Value} {n:Nat} {x:Value} {e:Value->Bool} {j:Nat} (he:∀ y,y∈items->MeetsSeq.EqGives y x (e y)) (hj:j<items.size) (hit:e items[j]=true) (hno:∀ m (hm:m<items.size),m<j->e items[m]=false) :
  Meets (Builtin.«tuple.index» ⟨[.ref l,x],[]⟩) (fun _ R s=>(∃ o,s.heap.get? l=some o∧o.cls = .type "tuple" ∧ o.data = .seq items n)∧R (.ok (.ret (.int j s.toks))) { s with toks:=s.toks+1 }):=by
 intro prog w A R s h
 obtain ⟨hp,g,d,tk,os⟩:=s
 obtain ⟨⟨o,hl,hc,hd⟩,h⟩:=h
 obtain ⟨ocls,odict,odata,oslots⟩:=o
 subst hc hd
 unfold Builtin.«tuple.index»
 simp only [Std.Legacy.Range.forIn_eq_forIn_range']
 wp_walk using wpAny_loadPart' hl
 refine Eh (e:=e) (j:=j) (fun i r y h=>?_) he hj hit hno ?_ [:Min.min items.size items.size].size 0 (Nat.zero_le _) (by rw [Nat.min_self];show j<0+(items.size - 0+1 - 1) / 1;omega)
 ·show (match items[i]? with | some y=>_ | x=>_)=_
  rw [h]
 ·wp_walk
  exact h
noncomputable def KTup (K:PySem.W.Frag) (a:Addr) (ys:List Str):Prop:=∃ (o:Obj) (its:Array Value) (n:Nat),K.lookup a=some o∧o.cls = .type "tuple" ∧ o.dict=none∧o.data = .seq its n∧its.size<=sizeLine∧Vals (ys.map V.str) its.toList
theorem KTup.sq {K:PySem.W.Frag} {H:Hp} {a:Addr} {ys:List Str} (h:KTup K a ys):SqT K H a (ys.map V.str):=by
 obtain ⟨o,its,n,h1,h2,h3,h4,h5,h6⟩:=h
 exact .inr ⟨o,its,n,h1,h2,h4,h5,h6⟩
noncomputable def ixS (x:Str):List Str->Option Nat
 | []=>none
 | y :: ys=>if y=x then some 0 else (ixS x ys).map (· + 1)
theorem HH {x:Str}:∀ {ys:List Str} {j:Nat},ixS x ys=some j->ys[j]? = some x ∧ ∀ m,m<j->ys[m]? ≠ some x
 | [],j,h=>by cases h
 | y :: ys,j,h=>by
  unfold ixS at h
  by_cases c:y=x
  ·rw [if_pos c] at h
   cases h
   exact ⟨by rw [c];rfl,fun m hm=>by omega⟩
  ·rw [if_neg c] at h
   obtain ⟨k,hk,rfl⟩:=Option.map_eq_some_iff.mp h
   obtain ⟨h1,h2⟩:=HH hk
   refine ⟨by simpa using h1,fun m hm=>?_⟩
   cases m with
   | zero=>intro z;exact c (by simpa using z)
   | succ m=>intro z;exact h2 m (by omega) (by simpa using z)
noncomputable def Jm (K:PySem.W.Frag):V->List V->Hp->VK->Prop:=fun x vs H Q=>∃ (p:Addr) (ys:List Str) (z:Str) (j:Nat),x = .ref p∧vs=[.str z]∧KTup K p ys∧ixS z ys=some j∧Q (.int j) H
theorem Ii {X:Cx}:MtR X "tuple.index" (Jm X.K):=by
 intro pins s σ H x xs v us Q I rx rs h
 obtain ⟨p,ys,z,j,rfl,rfl,hk,hj,q⟩:=h
 cases (show v=Value.ref p from rx)
 obtain ⟨v1,rfl,r1⟩:=vals1 rs
 obtain ⟨u,rfl⟩:=r1
 obtain ⟨o,its,n,h1,h2,h3,h4,h5,h6⟩:=hk
 obtain ⟨l,e1,e2⟩:=qC h6
 obtain ⟨a1,a2⟩:=HH hj
 have hsz:its.size=ys.length:=by have:=h6.length;simpa using this.symm
 have hjl:j<ys.length:=(List.getElem?_eq_some_iff.mp a1).1
 have at':∀ (m:Nat) (hm:m<its.size),∃ t,its[m] = .str (ys[m]'(by omega)) t:=fun m hm=>by
  have g1:(ys.map V.str)[m]? = some (.str (ys[m]'(by omega))):=by rw [List.getElem?_map,List.getElem?_eq_getElem (by omega)];rfl
  obtain ⟨w1,g2,g3⟩:=h6.get g1
  obtain ⟨t,rfl⟩:=g3
  rw [Array.getElem?_toList,Array.getElem?_eq_getElem hm] at g2
  exact ⟨t,Option.some.inj g2⟩
 refine call_meets PySem.F.slot_tuple_index ⟨o,I.kIn p o h1,h2⟩ PySem.F.entry_tuple_index (PySem.F.args_tuple_index_2 _ _) (Ac (e:=fun y=>match y with | .str a _=>a==z | _=>false) (j:=j) (items:=its) (n:=n) ?_ (by omega) ?_ ?_) ?_
 ·intro y hy
  obtain ⟨m,hm,rfl⟩:=Array.mem_iff_getElem.mp hy
  obtain ⟨t,e⟩:=at' m hm
  rw [e]
  exact eqGives_str _ _ _ _
 ·obtain ⟨t,e⟩:=at' j (by omega)
  rw [e]
  have:ys[j]'hjl=z:=by rw [List.getElem?_eq_getElem hjl] at a1;exact Option.some.inj a1
  show (ys[j]'hjl==z)=true
  rw [this]
  exact beq_self_eq_true z
 ·intro m hm hmj
  obtain ⟨t,e⟩:=at' m hm
  rw [e]
  have hn:=a2 m hmj
  rw [List.getElem?_eq_getElem (by omega)] at hn
  show (ys[m]'(by omega)==z)=false
  exact beq_eq_false_iff_ne.mpr fun c=>hn (by rw [c])
 ·exact ⟨⟨o,I.kIn p o h1,h2,h4⟩,.int j,H,I.tok _,⟨_,rfl⟩,q⟩
noncomputable def ik (ys:List Str):List D->Option D
 | [.str z]=>(ixS z ys).map fun (j:Nat)=>D.int (j:Int)
 | _=>none
theorem yE {K:PySem.W.Frag} {a:Addr} {ys:List Str} (hk:KTup K a ys):bM K (fun vs H Q=>Jm K (.ref a) vs H Q) (ik ys):=by
 intro F H vs ds f Q r e q
 unfold ik at e
 split at e
 ·obtain ⟨j,hj,rfl⟩:=Option.map_eq_some_iff.mp e
  obtain ⟨x,L,rfl,r1⟩:=r.one
  cases r1.isStr
  exact ⟨a,ys,_,j,rfl,rfl,hk,hj,q _ _ _ (.ofFlat rfl)⟩
 ·cases e
theorem Gg {X:Cx} {x:Str} {a:Addr} {ys:List Str} {e:Expr} {o:Opd} {p apos cpos:Pos} (hg:Gl X x) (hm:X.mg x=some (.ref a)) (hk:KTup X.K a ys) (ha:SA X [e] [o]) (hd:(x==("__debug__" : Str))=false:=by decide) (hs:starEach [e] X.env=[(false,eval e X.env)]:=by rfl)
  (hbase:attributeBase (.Name x p) "index" X.env (eval (.Name x p) X.env)=eval (.Name x p) X.env:=by rfl)
  (hfew:((backTo cpos (starEach [e] X.env)).all (fun x=>!x.1)&&(backToKw cpos (keywordEach [] X.env)).all (fun x=>x.1.isSome)
   && decide (([e]:List Expr).length+([]:List Keyword).length+(if ([]:List Keyword).isEmpty then 0 else 1)<30))=true:=by rfl)
  (hline:(apos.endLine==cpos.line)=true:=by rfl) :
  SE X (.Call (.Attribute (.Name x p) "index" apos) [e] [] cpos) (sDo (ik ys) [o]):=
 (vC PySem.F.plainAttrs_tuple PySem.F.slot_tuple_index PySem.F.type_tuple_index Ii (pB (v:=.ref a) hg hm rfl hd) ha hbase hfew hline hs rfl).wk fun σ H Q h=>by
  obtain ⟨ob,its,n,h1,h2,h3,h4,h5,h6⟩:=id hk
  exact ⟨.inr (.inl ⟨rfl,ob,h1,h2,h3⟩),gK (yE hk) h⟩
noncomputable def iGT (ys:List Str):lK:=fun ρ Q=>Q (ys.map D.str) ρ
theorem JF {X:Cx} {tg:Expr} {x:Str} {a:Addr} {ys:List Str} {p:Pos} (hg:Gl X x) (hm:X.mg x=some (.ref a)) (hk:KTup X.K a ys) (hd:(x==("__debug__" : Str))=false:=by decide):SI X tg (.Name x p) (iGT ys):=
 (Sd (pB (v:=.ref a) hg hm rfl hd)).wk fun σ H Q hh=>by
  obtain ⟨F,ρ,Ls,R,Qd,w,q,k⟩:=hh
  have hz:(ys.map D.str).length<=sizeLine:=by
   obtain ⟨ob,its,n,h1,h2,h3,h4,h5,h6⟩:=id hk
   have hl:ys.length=its.size:=by have:=h6.length;simpa using this
   rw [List.length_map,hl];exact h5
  refine ⟨a,rfl,⟨_,hk.sq⟩,k _ H _ ρ F Ls w Step.refl (Ag (vs:=ys.map V.str) (fun _=>True) (fun _ _ _=>trivial) (Rps.ofStrs _) hz ?_ ?_ ?_) q⟩
  ·exact fun i H2 v _ e=>⟨_,v,hk.sq,e⟩
  ·intro i H2 y H3 v _ e z
   obtain ⟨rfl,z⟩:=z
   have:=z _ hk.sq
   rw [e] at this
   exact ⟨rfl,(Option.some.inj this).symm⟩
  ·exact fun H2 _=>⟨_,hk.sq,Nat.le_refl _⟩
noncomputable def FnAt (K:PySem.W.Frag) (mg:Str->Option Value) (x:Str):Prop:=∃ a,PySem.W.nsIn K mainGlobals x=some (some (.ref a))∧mg x=some (.ref a)
theorem Lh {K:PySem.W.Frag} {h:Heap} {mg:Str->Option Value} {x:Str} {a:Addr} (X:K.In h) (G:h.Ns mainGlobals mg) (e:PySem.W.nsIn K mainGlobals x=some (some (.ref a))):FnAt K mg x:=⟨a,e,PySem.W.mg_of X G e⟩
theorem Jv {X:Cx} {x:Str} {pos:Pos} (h:FnAt X.K X.mg x) (hg:Gl X x) (hd:(x==("__debug__" : Str))=false:=by decide):SE X (.Name x pos) (sC (.fn x)):=by
 obtain ⟨a,n,m⟩:=h
 exact (pB (v:=.ref a) hg m rfl hd).wk fun σ H Q ⟨F,ρ,Ls,R,Qd,w,q,k⟩=>k (.ref a) H (.fn x) ρ F Ls [] (.fn n) w Step.refl q
noncomputable def xF (i:Nat) (tbl:List (Str×Nat×bV)) (os:List Opd):aZ:=fun ρ Q=>∃ y n sf,ρ[i]? = some (some (.fn y))∧tbl.lookup y=some (n,sf)∧aM n sf os ρ Q
theorem SM {X:Cx} {i:Nat} {x:Str} {tbl:List (Str×Nat×bV)} {e:Expr} {es:List Expr} {os:List Opd} {p pos:Pos} (hN:X.N[i]? = some x) (hv:Vis X.env.scope x)
  (ht:∀ y n sf,tbl.lookup y=some (n,sf) -> ∃ k ps,Prm X.prog X.w X.K X.mg X.base y k ps (aW X.K n false sf)∧Room k X.A) (ha:SA X (e :: es) os) (hdb:(x==("__debug__" : Str))=false:=by decide)
  (hcd:(x==("__classdict__" : Str))=false:=by decide) (he:starEach (e :: es) X.env=(false,eval e X.env) :: starEach es X.env:=by rfl) (hpl:(backTo pos (starEach es X.env)).any (·.1)=false:=by rfl) :
  SE X (.Call (.Name x p) (e :: es) [] pos) (xF i tbl os):=by
 intro pins s σ H Q I h
 obtain ⟨F,ρ,Ls,R,Qd,w,⟨y,n,sf,ey,et,q⟩,kk⟩:=h
 obtain ⟨v,hv',r⟩:=w.sl i _ ey
 obtain ⟨k,ps,⟨f,fd,Fk,b,g,kp⟩,hr⟩:=ht y n sf et
 obtain ⟨a,ev,na⟩:∃ a,v = .ref a∧PySem.W.nsIn X.K mainGlobals y=some (some (.ref a)):=by
  generalize Ls i=L at r
  cases r with
  | fn z=>exact ⟨_,rfl,z⟩
 subst ev
 have e1:=PySem.W.mg_of I.ok.mod.kin I.ok.mod.glob na
 have e2:f=a:=by rw [g] at e1;cases e1;rfl
 subst e2
 refine wpAny_Call_Name_kw (thn (nZ hN hv hdb hcd pins s σ H (fun v' H'=>v' = .ref f∧H'=H) I ⟨_,hv',rfl,rfl⟩) fun u s1 ⟨v',H1,I1,r1,z1,z2⟩=>?_)
 subst z1
 subst z2
 obtain rfl:u=Value.ref f:=r1
 refine PySem.W.callWith_K (h₀:=X.base) I1.ok.mod.kin kp (thn (ha pos pins s1 σ _ _ I1 (Ed (E:=E0) ⟨F,ρ,Ls,R,Qd,w,q,kk⟩)) fun us s2 ⟨vs,H2,I2,r2,q2⟩=>⟨I2.kIn,?_⟩) he hpl
 exact Jr Fk hr b .nil Do I2 r2 q2
section
variable (ρ : En) (Q:D->En->Prop)
end
end L2
namespace L2
theorem Oq {P:PySem.Str->Nat->bV->Prop}:∀ y m sg,List.lookup y ([]:List (PySem.Str×Nat×bV))=some (m,sg)->P y m sg:=fun _ _ _ e=>by simp at e
theorem mQ {P:PySem.Str->Nat->bV->Prop} {x:PySem.Str} {n:Nat} {sf:bV} {tbl:List (PySem.Str×Nat×bV)} (h:P x n sf) (t:∀ y m sg,List.lookup y tbl=some (m,sg)->P y m sg):∀ y m sg,List.lookup y ((x,n,sf) :: tbl)=some (m,sg)->P y m sg:=by
 intro y m sg e
 rw [List.lookup_cons] at e
 split at e
 ·rename_i h'
  cases e
  rw [eq_of_beq h']
  exact h
 ·exact t y m sg e
end L2
namespace L2
open PySem PySem.Spec PyProof.Rows
noncomputable def fsV (fs:List (Str×Addr)):List (Key×Value):=fs.map fun p=>(Sum.inr p.1,Value.ref p.2)
noncomputable def Kq (P:Program) (w:World) (K:PySem.W.Frag) (x:Str) (fs:List (Str×Addr)):Prop:=
 ∃ a o,PySem.W.nsIn K mainGlobals x=some (some (.ref a))∧(a==sysModules)=false∧K.lookup a=some o∧Obj.IsDictOf (dB P w) o (fsV fs)
theorem Hm:∀ (fs:List (Str×Addr)) (z:Str),valueAt (fsV fs) (Sum.inr z:Key)=(fs.lookup z).map Value.ref
 | [],z=>rfl
 | (y,a) :: fs,z=>by
  unfold fsV valueAt
  rw [List.map_cons,List.find?_cons]
  by_cases c:y=z
  ·subst c
   rw [List.lookup_cons,beq_self_eq_true]
   simp
  ·have h1:¬ ((Sum.inr y:Key)=Sum.inr z):=fun e=>c (Sum.inr.inj e)
   have h2:(z==y)=false:=beq_eq_false_iff_ne.mpr fun e=>c e.symm
   rw [List.lookup_cons,h2]
   simp only [decide_eq_false h1]
   exact Hm fs z
theorem Inv.kdct {X:Cx} {pins:List (Addr×Obj)} {σ : St} {H:Hp} {s:Shared} {x:Str} {a:Addr} {fs:List (Str×Addr)} (I:Inv X pins σ H s) (h:Kq X.prog X.w X.K x fs) (ha:PySem.W.nsIn X.K mainGlobals x=some (some (.ref a))) :
  (a==sysModules)=false∧s.heap.DictOf (dB X.prog X.w) a (fsV fs):=by
 obtain ⟨a',o,h1,h2,h3,h4⟩:=h
 rw [ha] at h1
 cases h1
 exact ⟨h2,Heap.dictOf_iff.mpr ⟨o,I.kIn a o h3,h4⟩⟩
noncomputable def Nx (X:Cx) (x:Str) (fs:List (Str×Addr)):R2:=fun y d H Q=>∃ a z,d = .ref a∧PySem.W.nsIn X.K mainGlobals x=some (some (.ref a))∧y = .str z∧Q (.bl (!(fs.lookup z).isSome)) H
theorem Fy {X:Cx} {x:Str} {fs:List (Str×Addr)} (hk:Kq X.prog X.w X.K x fs):OpR X (compareOp .NotIn) (Nx X x fs):=by
 intro pins s σ H y d v u Q I ry rd h
 obtain ⟨a,z,rfl,ha,rfl,q⟩:=h
 cases rd
 obtain ⟨t,rfl⟩:=ry
 obtain ⟨hs,dd⟩:=I.kdct hk ha
 refine wpAny_notIn_of (knd:=dB X.prog X.w) (k:=Sum.inr z) (qe z t) hs dd.mapOf ?_
 rw [Hm,Option.isSome_map]
 exact ⟨.bl _,H,I.tok _,rfl,q⟩
noncomputable def PP (X:Cx) (x:Str) (fs:List (Str×Addr)):R2:=fun d y H Q=>∃ a z f,d = .ref a∧PySem.W.nsIn X.K mainGlobals x=some (some (.ref a))∧y = .str z∧fs.lookup z=some f∧Q (.ref f) H
theorem Mg {X:Cx} {x:Str} {fs:List (Str×Addr)} (hk:Kq X.prog X.w X.K x fs):IxR X (PP X x fs):=by
 intro value slice pins s σ H d y v u Q I rd ry h hs
 obtain ⟨a,z,f,rfl,ha,rfl,hf,q⟩:=h
 cases rd
 obtain ⟨t,rfl⟩:=ry
 obtain ⟨_,dd⟩:=I.kdct hk ha
 have hw:valueAt (fsV fs) (Sum.inr z:Key)=some (.ref f):=by rw [Hm,hf];rfl
 have got:wpAny (model X.prog X.w) X.A (getItem (.ref a) (.str z t)) (EP X pins σ Q) X.xe s:=wpAny_getItem_of (knd:=dB X.prog X.w) (k:=Sum.inr z) (qe z t) dd.mapOf hw ⟨.ref f,H,I.tok _,rfl,q⟩
 have ty:s.TypeIs (.ref a) "dict":=dd.typeIs
 unfold subscriptTail
 refine wpAny_bind ?_
 rw [getitemInPython_of_ne ty.not_modules]
 refine wpAny_bind (wpAny_specialOf ty PySem.F.slot_dict_getitem.lookup ?_)
 have last:wpAny (model X.prog X.w) X.A (subscripted slice false (.ref a) (.str z t)) (fun r s3=>wpAny (model X.prog X.w) X.A (letTemporaryGo value (.ref a) r >>= fun _=>pure r) (EP X pins σ Q) X.xe s3) X.xe s:=by
  rw [hs]
  exact wpAny_operating (wpAny_mono got (fun r s3 h3=>wpAny_bind (wpAny_letTemporaryGo (wpAny_pure h3))) fun _ _ x=>x)
 first
  | exact wpAny_pure (wpAny_bind last)
  | exact wpAny_bind (wpAny_pure (wpAny_bind last))
  | exact wpAny_bind last
noncomputable def rQ (x:Str) (nm:List (Str×Str)):List D->Option D
 | [.fn y,.str z]=>if y=x then (nm.lookup z).map D.fn else none
 | _=>none
theorem Eu {X:Cx} {x:Str} {fs:List (Str×Addr)} {nm:List (Str×Str)} (hn:∀ z y,nm.lookup z=some y -> ∃ a,fs.lookup z=some a∧PySem.W.nsIn X.K mainGlobals y=some (some (.ref a))):bM X.K (r2 (PP X x fs)) (rQ x nm):=by
 intro F H vs ds f Q r e q
 unfold rQ at e
 split at e
 ·split at e
  ·rename_i hy
   subst hy
   obtain ⟨y,h1,rfl⟩:=Option.map_eq_some_iff.mp e
   obtain ⟨a,h2,h3⟩:=hn _ _ h1
   obtain ⟨d,v,L,M,rfl,r1,r2⟩:=r.two
   cases r2.isStr
   cases r1 with
   | fn n=>exact ⟨_,_,rfl,_,_,a,rfl,n,rfl,h2,q _ _ _ (.same (.fn h3))⟩
  ·cases e
 ·cases e
noncomputable def Aj (P:Program) (w:World) (o:Obj) (vs:List (Key×Value)):Prop:=∃ es ep,o.ExactDict∧o.data = .dict es ep∧PySem.KeysOf (dB P w) es∧Pairs (dB P w) es.toList vs∧(vs.map (·.1)).Nodup
theorem Aj.at {P:Program} {w:World} {o:Obj} {vs:List (Key×Value)} {h:Heap} {a:Addr} (d:Aj P w o vs) (e:h.get? a=some o):h.DictOf (dB P w) a vs:=let ⟨es,ep,c⟩:=d;⟨o,es,ep,e,c⟩
theorem KZ {P:Program} {w:World} {vs:List (Key×Value)} {h:Heap} {a:Addr} (d:h.DictOf (dB P w) a vs):∃ o,h.get? a=some o∧Aj P w o vs:=let ⟨o,es,ep,e,c⟩:=d;⟨o,e,es,ep,c⟩
theorem Aj.cell {P:Program} {w:World} {o:Obj} {vs:List (Key×Value)} (d:Aj P w o vs):∀ v,o.data ≠ .cell v:=fun v z=>by
 obtain ⟨es,ep,_,e,_⟩:=d
 rw [e] at z;cases z
theorem GQ {P:Program} {w:World}:Aj P w { cls:=.type "dict",data:=.dict #[] 0 } []:=by
 obtain ⟨o,es,ep,e,c⟩:=Heap.DictOf.new (knd:=dB P w) (default:Heap)
 rw [Heap.get?_push_size _ rfl] at e
 cases e
 exact ⟨es,ep,c⟩
section
variable {prog:Program} {w:World} {A:Around} {R:Result->Shared->Prop} {s:Shared}
theorem vV {kx elt tg iter:Expr} {scope:Scope} {pos:Pos} {it:Value} {D:Addr} {env:Env} (I:Nat->Shared->Prop)
  (turn:∀ n s,I n s->wpAny (model prog w) A (pyNext it) (fun r s₁ => match r with
   | none=>R (.ok .next) s₁
   | some v=>wpAny (model prog w) A (letOwnedTupleGo tg it v) (fun _ s₂ => wpAny (model prog w) A (assign tg env v) (fun _ s₃ =>
     wpAny (model prog w) A (eval kx env) (fun kv s₄ => wpAny (model prog w) A (eval elt env) (fun x s₅ => wpAny (model prog w) A (dictSet D kv x) (fun _ s₆ => ∃ m,m<n∧I m s₆) (fun _ _=>False) s₅) (fun _ _=>False) s₄)
      (fun _ _=>False) s₃) (fun _ _=>False) s₂) (fun _ _=>False) s₁) (fun _ _=>False) s)
  (n:Nat) (h:I n s) :
  codeAny (model prog w) A (.compLoop (.DictComp kx elt [⟨tg,iter,[],0⟩] scope pos) 0 it (.ref D) env) R s:=by
 have no:∀ {α : Type} {m:Sem α} {Q : α -> Shared->Prop} {E:Value->Shared->Prop} {s:Shared},wpAny (model prog w) A m Q (fun _ _=>False) s->wpAny (model prog w) A m Q E s:=
  fun h=>wpAny_mono h (fun _ _ q=>q) fun _ _ f=>f.elim
 refine codeAny_loop rfl I (fun n s hI=>?_) n h
 show wpAny _ A (Sem.onRaise (compTurn (.DictComp kx elt [⟨tg,iter,[],0⟩] scope pos) 0 it (.ref D) env) (fun x=>do noteFrame x env;theTreesLotGoes x)) _ _ s
 refine wpAny_noted ?_
 rw [compTurn_dict]
 refine wpAny_bind (wpAny_standAt (wpAny_bind (wpAny_mono (no (turn n s hI)) (fun r s₁ h₁ => ?_) fun _ _ z=>z)))
 cases r with
 | none=>exact wpAny_pure h₁
 | some v=>
  refine wpAny_bind (wpAny_mono (no h₁) (fun _ s₂ h₂ => ?_) fun _ _ z=>z)
  refine wpAny_bind (wpAny_mono (no h₂) (fun _ s₃ h₃ => ?_) fun _ _ z=>z)
  refine wpAny_bind (wpAny_tests_nil ?_)
  refine wpAny_bind (wpAny_bind (wpAny_mono (no h₃) (fun kv s₄ h₄ => ?_) fun _ _ z=>z))
  refine wpAny_bind (wpAny_holding (wpAny_mono (no h₄) (fun x s₅ h₅ => ?_) fun _ _ z=>z))
  refine wpAny_bind (wpAny_standAt (wpAny_holding (wpAny_mono (no h₅) (fun _ s₆ h₆ => ?_) fun _ _ z=>z)))
  exact wpAny_pure ⟨rfl,h₆⟩
end
section
variable {X:Cx} {pins:List (Addr×Obj)} {σ : St} {H₂ : Hp} {s₂ : Shared} {scope:Scope} {own:List Str} {fr:List Nat} {cl:List (Str×Addr)} {fp:List Addr}
 {tg kx elt iter:Expr} {pos:Pos} {J:It} {it:Addr} {tn:Nat->Heap->Prop} {g:TG} {tk te:TE} {RR:Value->Addr->Result->Shared->Prop} {E:Value->Shared->Prop} {Fin:List (Key×V)->Hp->Prop}
theorem Av (I2:Inv X pins σ H₂ s₂) (hc:X.calm=true) (S:CScope X scope own fr) (h1:∀ x c,(x,c)∈cl->X.env.cells.lookup x=some c) (h2:∀ x,(x,NameKind.free)∈scope.names -> ∃ c,cl.lookup x=some c)
  (T:Turn X.prog X.w X.K tg J fp it tn) (st2:tn 0 s₂.heap) (f2:∀ b∈fp,oG X pins H₂ b)
  (hg:∀ cl C,PG (X.comp scope (bD X own fr) cl C fp s₂ H₂) tg g) (hk:∀ cl C,PE (X.comp scope (bD X own fr) cl C fp s₂ H₂) kx tk) (he:∀ cl C,PE (X.comp scope (bD X own fr) cl C fp s₂ H₂) elt te)
  (W:Nat->Nat->List (Key×V)->St->Hp->Prop) (m0:Nat) (w0:W 0 m0 [] (gk own fr σ) H₂)
  (turn:∀ i m ys σ' H',W i m ys σ' H'->(J.stop i H'∧Fin ys H')∨(J.go i H'∧ys.length<sizeLine ∧ ∀ x H3,J.yld i H' x H3->g x σ' H3 fun σ4 H4=>tk σ4 H4 fun y H5=>te σ4 H5 fun z H6=>∃ kk,y=kV kk ∧ ∃ m',m'<m∧W (i+1) m' (putK ys kk z) σ4 H6))
  (hR:∀ D C s' H' ys m,Inv X pins σ (upd H' D (.dK ys)) s'->s'.heap.Ns C m->oG X pins (upd H' D (.dK ys)) C->H' D=none->Fin ys H'->RR (.ref D) C (.ok .next) s') :
  wpAny (model X.prog X.w) X.A newDict (fun acc s₃ => wpAny (model X.prog X.w) X.A (newFunctionEnv scope X.env.globals cl [] X.env.qual none .none (some X.env)) (fun cenv s₄ =>
   codeAny (model X.prog X.w) X.A (.compStart (.DictComp kx elt [⟨tg,iter,[],0⟩] scope pos) 0 (.ref it) acc { cenv with scope:=relabel scope X.env }) (RR acc cenv.locals) s₄) E s₃) E s₂:=by
 unfold newDict
 refine wpAny_newObj_type (jX ?_)
 dsimp only
 generalize eG:s₂.heap.push { cls:=.type "dict",dict:=none,data:=.dict #[] }=G
 have sG:G.objs.size=s₂.heap.objs.size+1:=by rw [← eG,Heap.size_push]
 have hDC:s₂.heap.objs.size≠G.objs.size:=by rw [sG];exact Nat.ne_of_lt (Nat.lt_succ_self _)
 have hCle:s₂.heap.objs.size<=G.objs.size:=by rw [sG];exact Nat.le_succ _
 have neC:∀ b,b<s₂.heap.objs.size->b≠G.objs.size:=fun b hb=>Nat.ne_of_lt (Nat.lt_of_lt_of_le hb hCle)
 have cellLt:∀ x c,X.env.cells.lookup x=some c->c<s₂.heap.objs.size:=fun x c e=>let ⟨v,q⟩:=I2.cell x c e;q.lt
 have cs:CellsAt X scope (cellsFrom (G.objs.size+1) scope.names cl) G.objs.size:={
  old:=fun x c e=>by
   rcases cW _ _ _ x c e with ⟨z,_⟩ | ⟨z,_⟩
   ·exact .inl (h1 x c (PySem.mem_of_lookup z))
   ·exact .inr z
  has:=fun x hx=>by
   refine Option.isSome_iff_exists.mp (PySem.W.cellsFrom_some scope.names _ cl ?_)
   rcases hx with z | z
   ·obtain ⟨c,hc⟩:=h2 x z
    exact .inr (by rw [hc];rfl)
   ·exact .inl (dq S.keys z)
  fre:=fun x hx=>by
   obtain ⟨c,hc⟩:=h2 x hx
   obtain ⟨c',hc'⟩:=Option.isSome_iff_exists.mp (PySem.W.cellsFrom_some scope.names (G.objs.size+1) cl (.inr (by rw [hc];rfl)) (x:=x))
   rcases cW _ _ _ x c' hc' with ⟨z,_⟩ | ⟨_,z⟩
   ·exact ⟨c',hc',h1 x c' (PySem.mem_of_lookup z)⟩
   ·have:=dq S.keys z
    rw [dq S.keys hx] at this
    cases this
  cab:=fun x c ho e=>by
   rcases cW _ _ _ x c e with ⟨_,z⟩ | ⟨z,_⟩
   ·exact absurd (qK.mp ho) z
   ·exact z
  inj:=fun x y c hc e1 e2=>by
   have low:∀ z∈cl,¬ G.objs.size+1<=z.2:=fun z hz hl=>by
    have:=cellLt z.1 z.2 (h1 z.1 z.2 hz)
    exact absurd (Nat.lt_of_lt_of_le this hCle) (Nat.not_lt.mpr (Nat.le_of_succ_le hl))
   exact iY (lo:=G.objs.size+1) scope.names _ cl (Nat.le_refl _) (fun z hz hl=>absurd hl (low z hz)) (fun z hz z' _ hl _=>absurd hl (low z hz)) (x,c) (PySem.mem_of_lookup e1) (y,c) (PySem.mem_of_lookup e2) hc rfl }
 generalize e4:pushCells (G.push { cls:=.type "dict",data:=.dict #[] }) scope.names=h4
 have up:∀ b o,G.get? b=some o->h4.get? b=some o:=fun b o e=>by rw [← e4];exact pushCells_keeps _ _ _ _ (Heap.get?_push_of_some _ e)
 have hn4:h4.Ns G.objs.size (fun _=>none):=by rw [← e4];exact (Heap.Ns.new G (.type "dict")).keeps (pushCells_keeps _ _)
 have hnew:∀ x c,(cellsFrom (G.objs.size+1) scope.names cl).lookup x=some c->G.objs.size<c->h4.IsCell c none:=fun x c e hc=>by
  rcases iZ scope.names (G.push { cls:=.type "dict",data:=.dict #[] }) cl x c (by rw [Heap.size_push];exact PySem.mem_of_lookup e) with z | z
  ·have:=cellLt x c (h1 x c z)
   exact absurd (Nat.lt_trans (Nat.lt_of_lt_of_le this hCle) hc) (Nat.lt_irrefl _)
  ·rw [← e4];exact z
 have old:∀ b o,s₂.heap.get? b=some o->h4.get? b=some o:=fun b o e=>up b o (by rw [← eG];exact Heap.get?_push_of_some _ e)
 have hD4:h4.get? s₂.heap.objs.size=some { cls:=.type "dict",data:=.dict #[] 0 }:=up _ _ (by rw [← eG];exact Heap.get?_push_size _ rfl)
 generalize ecs:cellsFrom (G.objs.size+1) scope.names cl=cl' at cs hnew ⊢
 have ho:∀ b∈fp,b<s₂.heap.objs.size:=fun b hb=>let ⟨_,e,_⟩:=T.obj 0 _ st2 b hb;Heap.lt_size e
 have nD:s₂.heap.objs.size ∉ fp:=fun z=>Nat.lt_irrefl _ (ho _ z)
 have nf:∀ {b:Addr},s₂.heap.objs.size<=b->b ∉ frs X.stack:=fun {b} hb z=>by
  rcases List.mem_cons.mp (I2.stkSub b z) with e | e
  ·exact absurd (Nat.lt_of_lt_of_le I2.lt (by rw [← e];exact hb)) (Nat.lt_irrefl _)
  ·exact I2.nofs hb e
 have cellNe:∀ x c,cl'.lookup x=some c->c≠s₂.heap.objs.size:=fun x c e z=>by
  rcases cs.old x c e with q | q
  ·exact Nat.ne_of_lt (cellLt x c q) z
  ·exact Nat.lt_irrefl _ (Nat.lt_of_lt_of_le q (by rw [z];exact hCle))
 have stat:∀ {H':Hp} {o:Obj},(∀ b∈fp,H' b=none) -> ∀ b∈fp,oG (X.comp scope (bD X own fr) cl' G.objs.size fp s₂ H₂) [(s₂.heap.objs.size,o)] H' b:=fun {H' o} hn b hb=>
  ⟨hn b hb,neC b (ho b hb),fun z=>(List.mem_cons.mp (I2.stkSub b z)).elim (f2 b hb).2.1 (f2 b hb).2.2.1,.inl hb,fun x c e=>(by
   rcases cs.old x c e with q | q
   ·exact (f2 b hb).2.2.2.2.1 x c q
   ·exact fun z=>Nat.lt_irrefl _ (Nat.lt_trans (Nat.lt_of_lt_of_le (ho b hb) hCle) (by rw [z] at q;exact q))),fun p hp z=>by
   have e:p=(s₂.heap.objs.size,o):=by simpa using hp
   subst e
   exact nD (by rw [show s₂.heap.objs.size=b from z];exact hb)⟩
 have I4:=rO (cl:=cl') (tk:=s₂.toks) I2 S cs hnew f2 ho hCle hn4 old
 have loop:codeAny (model X.prog X.w) X.A (.compLoop (.DictComp kx elt [⟨tg,iter,[],0⟩] scope pos) 0 (.ref it) (.ref s₂.heap.objs.size) (compEnvC scope cl' G.objs.size X.env)) (RR (.ref s₂.heap.objs.size) G.objs.size)
   { s₂ with heap:=h4,toks:=s₂.toks }:=by
  refine vV (fun n s'=>∃ i ys vs o σ' H',Inv (X.comp scope (bD X own fr) cl' G.objs.size fp s₂ H₂) [] σ' H' s'∧tn i s'.heap∧(∀ b∈fp,H' b=none) ∧
   s'.heap.get? s₂.heap.objs.size=some o∧Aj X.prog X.w o vs∧KV ys vs∧H' s₂.heap.objs.size=none∧ys.length<=sizeLine∧W i n ys σ' H') ?_ m0
   ⟨0,[],[],_,gk own fr σ,H₂,I4,T.keep _ _ _ st2 (fun b _ o e=>old b o e),fun b hb=>(f2 b hb).1,hD4,GQ,.nil,I2.hok.fresh (Nat.le_refl _),Nat.zero_le _,w0⟩
  rintro n s5 ⟨i,ys,vs,o5,σ5,H5,I5,st5,fr5,hD5,do5,rv5,hn5,hz5,w5⟩
  have pinD:Inv (X.comp scope (bD X own fr) cl' G.objs.size fp s₂ H₂) [(s₂.heap.objs.size,o5)] σ5 H5 s5:=I5.pins_of fun p hp=>by
   have e:p=(s₂.heap.objs.size,o5):=by simpa using hp
   subst e
   exact ⟨hD5,hn5,hDC,nf (Nat.le_refl _),do5.cell⟩
  rcases turn i n ys σ5 H5 w5 with ⟨stop,fin⟩ | ⟨go,hzl,step⟩
  ·refine thn (T.done (X.comp scope (bD X own fr) cl' G.objs.size fp s₂ H₂) rfl rfl rfl hc i _ s5 σ5 H5 (fun _ _=>False) pinD (stat fr5) st5 stop) fun r s6 hh28=>?_
   obtain ⟨hr,I6⟩:=hh28
   subst hr
   have hD6:=(I6.pin _ (List.mem_append_right _ List.mem_cons_self)).1
   obtain ⟨m6,hn6,_⟩:=I6.loc
   have hk6:HOk X.prog X.w (upd H5 s₂.heap.objs.size (.dK ys)) s6.heap:=I6.hok.adopt hn5 ⟨hz5,beq_eq_false_iff_ne.mpr (Ne.symm (Nat.ne_of_lt I2.big)),vs,rv5,do5.at hD6⟩
   have bne:∀ b o,s₂.heap.get? b=some o->b≠s₂.heap.objs.size:=fun b o e=>Nat.ne_of_lt (Heap.lt_size e)
   have tne:∀ b o,H5 b=some o->b≠s₂.heap.objs.size:=fun b o e=>bI e hn5
   have un6:Un (frs X.stack) fp H₂ (upd H5 s₂.heap.objs.size (.dK ys)) s₂.heap s6.heap:=
    ⟨I6.base.keep,I6.base.slot,fun b o e n hx=>by rw [bf (bne b o e)];exact I6.base.free b o e n hx,I6.base.there,
     fun b xs e=>by have z:=I6.base.tups b xs e;rw [bf (tne b _ z)];exact z,fun b o u e=>by have z:=I6.base.frzs b o u e;rw [bf (tne b _ z)];exact z,
     fun b ps e=>by obtain ⟨mo,z⟩:=I6.base.tbls b ps e;exact ⟨mo,by rw [bf (tne b _ z)];exact z⟩⟩
   have J6:Inv X pins σ (upd H5 s₂.heap.objs.size (.dK ys)) s6:=I2.call' I6.os un6 hk6 I6.bare fun b hb=>⟨(f2 b hb).2.2.2.1,(f2 b hb).2.1,(f2 b hb).2.2.2.2.1,(f2 b hb).2.2.2.2.2⟩
   refine hR _ _ s6 H5 ys m6 J6 hn6 ⟨?_,?_,?_,?_,?_,?_⟩ hn5 fin
   ·rw [bf (Ne.symm hDC)];exact I6.free
   ·exact Ne.symm (neC _ I2.lt)
   ·exact I2.nofs hCle
   ·exact .inr (Nat.le_trans I2.sz hCle)
   ·intro x c e z
    obtain ⟨v,q⟩:=I2.cell x c e
    exact absurd (Nat.lt_of_lt_of_le q.lt (by rw [z];exact hCle)) (Nat.lt_irrefl _)
   ·intro p hp z
    exact absurd (Nat.lt_of_lt_of_le (Heap.lt_size (I2.pin p hp).1) (by rw [z];exact hCle)) (Nat.lt_irrefl _)
  ·refine thn (T.item (X.comp scope (bD X own fr) cl' G.objs.size fp s₂ H₂) rfl rfl rfl hc i _ s5 σ5 H5 (fun _ _=>False) pinD (stat fr5) st5 go) fun r s6 hh29=>?_
   obtain ⟨u,hr,h6⟩:=hh29
   subst hr
   refine thn h6 fun _ s7 hh30=>?_
   obtain ⟨x,H7,I7,r7,y7,st7,fr7⟩:=hh30
   have I7':=I7.pinned (stat fr7) (T.obj _ _ st7)
   refine thn (hg _ _ _ s7 σ5 H7 x u _ I7' r7 (step x H7 y7)) fun _ s8 hh31=>?_
   obtain ⟨σ8,H8,I8,q8⟩:=hh31
   have kept:∀ {s':Shared} {σ':St} {H':Hp},Inv (X.comp scope (bD X own fr) cl' G.objs.size fp s₂ H₂) ([(s₂.heap.objs.size,o5)]++qm fp s7.heap) σ' H' s' ->
     tn (i+1) s'.heap∧(∀ b∈fp,H' b=none)∧s'.heap.get? s₂.heap.objs.size=some o5∧H' s₂.heap.objs.size=none:=fun {s' σ' H'} Z=>by
    have zD:=Z.pin (s₂.heap.objs.size,o5) (List.mem_append_right _ (List.mem_append_left _ List.mem_cons_self))
    refine ⟨T.keep _ _ _ st7 fun b hb o e=>(Z.pin (b,o) (List.mem_append_right _ (List.mem_append_right _ (iQ hb e)))).1,fun b hb=>?_,zD.1,zD.2.1⟩
    obtain ⟨o,e,_⟩:=T.obj _ _ st7 b hb
    exact (Z.pin (b,o) (List.mem_append_right _ (List.mem_append_right _ (iQ hb e)))).2.1
   refine thn (hk _ _ _ s8 σ8 H8 _ I8 q8) fun kv s9 hh32=>?_
   obtain ⟨y,H9,I9,r9,q9⟩:=hh32
   refine thn (he _ _ _ s9 σ8 H9 _ I9 q9) fun v sa hh33=>?_
   obtain ⟨z,Ha,Ia,ra,kk,ey,m',hm',wa⟩:=hh33
   subst ey
   obtain ⟨z1,z2,z3,z4⟩:=kept Ia
   refine wpAny_dictSet_pairs (hsz:=by rw [← rv5.length];exact hz5) (Pr r9) (do5.at z3) fun hb db sbb=>?_
   have Ib:Inv (X.comp scope (bD X own fr) cl' G.objs.size fp s₂ H₂) [] σ8 Ha { sa with heap:=hb,toks:=sa.toks+1 }:=
    (Ia.pins_of (pins':=[]) fun p hp=>nomatch hp).turned (t':=sa.toks+1) (it:=s₂.heap.objs.size) (fun b o hne e=>(sbb.2 b hne).trans e) z4 hDC (.inr (Nat.le_refl _)) cellNe fun p hp=>nomatch hp
   obtain ⟨ob,hob,dob⟩:=KZ db
   refine ⟨m',hm',i+1,putK ys kk z,stored vs kk v,ob,σ8,Ha,Ib,T.keep _ _ _ z1 fun b hb' o e=>(sbb.2 b fun q=>nD (by rw [← q];exact hb')).trans e,z2,hob,dob,rv5.put kk ra,z4,by have:=zb ys kk z;omega,wa⟩
 exact codeAny_compStart_dict loop (T.self _ 0 _ _ _ (T.keep _ _ _ st2 fun b _ o e=>old b o e) loop)
end
noncomputable def Gw (J:It) (own:List Str) (fr:List Nat) (σ : St) (g:TG) (tk te:TE) (Q:VK) (H1:Hp):Prop:=∃ W:Nat->Nat->List (Key×V)->St->Hp->Prop,
 (∃ m,W 0 m [] (gk own fr σ) H1) ∧ ∀ i m ys σ' H',W i m ys σ' H'->(J.stop i H' ∧ ∀ p,H' p=none->Q (.ref p) (upd H' p (.dK ys))) ∨
  (J.go i H'∧ys.length<sizeLine ∧ ∀ x H3,J.yld i H' x H3->g x σ' H3 fun σ4 H4=>tk σ4 H4 fun y H5=>te σ4 H5 fun z H6=>∃ kk,y=kV kk ∧ ∃ m',m'<m∧W (i+1) m' (putK ys kk z) σ4 H6)
noncomputable def JT (wi:TI) (own:List Str) (fr:List Nat) (g:TG) (tk te:TE):TE:=fun σ H Q=>wi σ H fun J H1=>Gw J own fr σ g tk te Q H1
section
variable {X:Cx} {scope:Scope} {own:List Str} {fr:List Nat} {tg kx elt iter:Expr} {pos:Pos} {wi:TI} {g:TG} {tk te:TE}
theorem Jg {i:Nat} {y:Str} {py spos:Pos} (hN:X.N.Nodup) (hi:X.N[i]? = some y) (hx:Loc X.env.scope y) (hc:X.calm=true) (hit:PI X tg iter wi) (S:CScope X scope own fr)
  (hg:∀ cl C fp s₂ H₂,PG (X.comp scope (bD X own fr) cl C fp s₂ H₂) tg g) (hk:∀ cl C fp s₂ H₂,PE (X.comp scope (bD X own fr) cl C fp s₂ H₂) kx tk) (he:∀ cl C fp s₂ H₂,PE (X.comp scope (bD X own fr) cl C fp s₂ H₂) elt te)
  (hsw:swapsWith (.DictComp kx elt [⟨tg,iter,[],0⟩] scope pos) (some (.Name y py)) spos.line X.env=pure true:=by rfl)
  (hs:∀ x,foldedSetIterable iter X.env x=pure x:=by intro _;rfl) (hf:X.fn y=true∨X.env.scope.names.lookup y=some .local:=by first | exact .inl rfl | exact .inr rfl | assumption) :
  PS X (.Assign [.Name y py] (.DictComp kx elt [⟨tg,iter,[],0⟩] scope pos) spos) (Ol (JT wi own fr g tk te) (Cw i)):=by
 intro pins s σ H D I h
 obtain ⟨cl,hcl,h1,h2⟩:=kJ (scope:=scope) (env:=X.env) fun n hn=>I.ok.has n (S.free n hn)
 rw [exec_Assign_Name_used _ _ _ _ hsw]
 refine wpAny_bind (wpAny_standAt (wpAny_bind ?_))
 show wpAny _ X.A (do let _ ← comprehension (.DictComp kx elt [⟨tg,iter,[],0⟩] scope pos) scope X.env _ newDict false (eval iter X.env) (some (assign (.Name y py) X.env))) _ _ s
 refine wpAny_bind (wpAny_mono (wpAny_comprehension_free (use:=some (assign (.Name y py) X.env)) (Q:=fun _ s'=>SP X pins D .next s') rfl hs hcl S.kind S.names
  (thn (hit pins s σ H _ I h) fun v s1 q1=>thn q1 fun itv s2 q2=>?_)) (fun _ s' q=>wpAny_pure (wpAny_pure q)) fun _ _ z=>z)
 obtain ⟨it,fp,tn,J,H2,e,I2,T,st2,f2,W,⟨m0,w0⟩,turn⟩:=q2
 subst e
 refine Av (RR:=fun acc C=>compPost (model X.prog X.w) X.A X.xe (some (assign (.Name y py) X.env)) (fun _ s'=>SP X pins D .next s') acc C)
  (Fin:=fun ys H'=>∀ p,H' p=none->D.nx (σ.set i (some (.ref p))) (upd H' p (.dK ys)))
  I2 hc S h1 h2 T st2 f2 (fun cl C=>hg cl C fp s2 H2) (fun cl C=>hk cl C fp s2 H2) (fun cl C=>he cl C fp s2 H2) W m0 w0 turn ?_
 intro B C s' H' ys m J' hn fC hB fin
 refine wpAny_assign_Name (qz (v:=.ref B) J' hN hi hx rfl (fun s'' I'' sb=>?_) hf)
 obtain ⟨a,sba,ha⟩:=sb
 have nca:C≠a:=by
  rcases ha with z | z
  ·rw [z];exact fC.2.1
  ·exact Ne.symm (fC.2.2.2.2.1 _ a z)
 exact ⟨m,hn.sameBut sba nca,fun h' sb'=>⟨_,_,I''.turned (t':=s''.toks) (it:=C) (fun b o hne e=>(sb'.2 b hne).trans e) fC.1 fC.2.1 fC.2.2.2.1 fC.2.2.2.2.1 fC.2.2.2.2.2,fin B hB⟩⟩
end
section
variable {X:Cx} {scope:Scope} {own:List Str} {fr:List Nat} {tg kx elt iter:Expr} {pos:Pos} {si:lK} {g:dY} {ek el:aZ}
end
noncomputable def mz (g:dY) (ek ev:aZ):List D->En->List Key->List D->(List Key->List D->En->Prop)->Prop
 | [],ρ,ks,es,Q=>Q ks es ρ
 | d :: ds,ρ,ks,es,Q=>g d ρ fun ρ1=>ek ρ1 fun dk ρ2=>∃ k,dk.key=some k∧Ey ks k=false∧ev ρ2 fun dv ρ3=>mz g ek ev ds ρ3 (ks++[k]) (es++[dv]) Q
noncomputable def tL (si:lK) (nO:Nat) (fr:List Nat) (g:dY) (ek ev:aZ):aZ:=fun ρ Q=>si ρ fun ds ρ1=>mz g ek ev ds (cSt nO fr ρ1) [] [] fun ks es ρc=>Q (.dct true ks es) (wb ρ1 fr (ρc.drop nO))
theorem Jl {ys:List (Key×V)} {k:Key} {v:V} (h:Ey (ys.map (·.1)) k=false):putK ys k v=ys++[(k,v)]:=by
 unfold putK
 rw [Nv,h]
 rfl
theorem KJ {K:PySem.W.Frag} {F:Addr->Prop} {H:Hp} {σ : St} {ρ : En} {Ls:Nat->List Addr} {R:List Addr} {own:List Str} {fr:List Nat} {J:It} {ds:List D} {g:dY} {ek el:aZ} {P:List Key->List D->En->Prop} {Q:VK}
  (w:WS K F H σ ρ Ls R) (nd:fr.Nodup) (hfr:∀ j∈fr,j < ρ.length) (wk:Wk K F H J ds) (q:mz g ek el ds (cSt own.length fr ρ) [] [] P)
  (fin:∀ H' F' (ys:List (Key×V)) es ρc Ls' Le,Rps K F' H' (ys.map (·.2)) es Le->WS K F' H' σ (wb ρ fr (ρc.drop own.length)) Ls' (Le++R)->Step F H Ls F' H' Ls' Le->P (ys.map (·.1)) es ρc -> ∀ p,H' p=none->Q (.ref p) (upd H' p (.dK ys))) :
  Gw J own fr σ (Ab K (kpC own.length) g) (gM K ek) (gM K el) Q H:=by
 have wc:=w.block (own:=own) nd
 refine ⟨fun i m ys σ' H'=>m=ds.length - i∧i<=ds.length∧ys.length<=i ∧ ∃ F' ρc Lsc es Le,Rps K F' H' (ys.map (·.2)) es Le∧WS K F' H' σ' ρc Lsc (Le++(gw ρ.length fr Ls++R))∧Step F H (Lc own.length fr Ls) F' H' Lsc Le∧Keeps F H F' H' ∧
  (∀ z,own.length<=z -> σ'[z]? = (gk own fr σ)[z]?) ∧ ρc.length=own.length+fr.length∧mz g ek el (ds.drop i) ρc (ys.map (·.1)) es P,
  ⟨ds.length,by simp,Nat.zero_le _,Nat.le_refl _,F,_,_,[],[],.nil,wc,Step.refl,Keeps.refl,fun _ _=>rfl,by simp [cSt],by simpa using q⟩,?_⟩
 rintro i m ys σ1 H1 ⟨rfl,hi,hy,F1,ρ1,Ls1,es,Le,re,w1,s1,k1,e1,l1,q1⟩
 by_cases hlt:i<ds.length
 ·have hd:=List.getElem?_eq_getElem hlt
  rw [List.drop_eq_getElem_cons hlt] at q1
  refine .inr ⟨wk.go i F1 H1 k1 hlt,by have:=wk.small;omega,fun x H2 y=>?_⟩
  obtain ⟨rx,hH⟩:=wk.yld i F1 H1 x H2 _ k1 hd y
  have w2:WS K F1 H2 σ1 ρ1 Ls1 (Le++(gw ρ.length fr Ls++R))∧Step F1 H1 Ls1 F1 H2 Ls1 []∧Keeps F1 H1 F1 H2∧Rps K F1 H2 (ys.map (·.2)) es Le:=by
   rcases hH with rfl | ⟨p,xs,hn,rfl⟩
   ·exact ⟨w1,Step.refl,Keeps.refl,re⟩
   ·exact ⟨w1.laid hn,Step.laid hn,Keeps.laid hn,re.laid hn⟩
  obtain ⟨w2,s2,k2,re2⟩:=w2
  refine ⟨F1,ρ1,Ls1,Le++(gw ρ.length fr Ls++R),_,_,[],w2,rx,q1,fun σ3 ρ3 Ls3 w3 src3 e3 l3 q3=>?_⟩
  have s3:Step F H (Lc own.length fr Ls) F1 H2 Ls3 Le:=((s1.trans s2).trans (Ls2:=Ls3) (F2:=F1) (H2:=H2) (Ld2:=[]) ⟨fun _ _ e _=>e,fun _ h=>h,fun j a h=>(src3 j a h).elim (fun h=>absurd h (by simp)) .inl,fun a h=>absurd h (by simp)⟩).more s1.srcD
  have e3':∀ z,own.length<=z -> σ3[z]? = (gk own fr σ)[z]?:=fun z hz=>(e3 z (decide_eq_true hz)).trans (e1 z hz)
  have hl3:∀ {ρ':En} {F':Addr->Prop} {H':Hp} {L':Nat->List Addr} {R':List Addr},WS K F' H' σ3 ρ' L' R' -> ρ'.length=own.length+fr.length:=fun {_ _ _ _ _} z=>by
   rw [z.len,l3,← w1.len,l1]
  refine ⟨F1,ρ3,Ls3,Le++(gw ρ.length fr Ls++R),_,w3,q3,fun vk H4 dk ρ4 F4 Ls4 Lk rk w4 s4 q4=>?_⟩
  obtain ⟨kk,ek',hnew,q4⟩:=q4
  obtain ⟨rfl,rfl⟩:=rk.key ek'
  rw [List.nil_append] at w4
  have k4:Keeps F H F4 H4:=(k1.trans k2).trans (s4.keeps w3)
  have re4:=re2.step w3 s4 fun a ha=>List.mem_append_left _ ha
  have s45:Step F H (Lc own.length fr Ls) F4 H4 Ls4 Le:=(s3.trans s4).more s3.srcD
  refine ⟨F4,ρ4,Ls4,Le++(gw ρ.length fr Ls++R),_,w4,q4,fun v H5 d ρ5 F5 Ls5 Ld rv w5 s5 q5=>⟨kk,rfl,ds.length - (i+1),by omega,?_⟩⟩
  have re5:=re4.step w4 s5 fun a ha=>List.mem_append_left _ ha
  rw [Jl hnew]
  refine ⟨rfl,hlt,by rw [List.length_append];simp;omega,F5,ρ5,Ls5,es++[d],Le++(Ld++[]),?_,w5.perm ?_,?_,k4.trans (s5.keeps w4),e3',hl3 w5,?_⟩
  ·rw [List.map_append]
   exact re5.append (.cons rv .nil)
  ·rw [List.append_nil]
   refine List.Perm.trans (List.perm_append_comm.append_right _) ?_
   rw [List.append_assoc]
  ·rw [List.append_nil];exact s45.both s5
  ·rw [List.map_append]
   exact q5
 ·have e:i=ds.length:=by omega
  subst e
  rw [List.drop_length] at q1
  refine .inl ⟨wk.stop F1 H1 k1,fun p hp=>?_⟩
  obtain ⟨wf,sf⟩:=w.unblock nd hfr w1 s1 e1 l1
  exact fin H1 F1 ys es ρ1 _ Le re wf sf q1 p hp
section
variable {X:Cx} {scope:Scope} {own:List Str} {fr:List Nat} {tg kx elt iter:Expr} {pos:Pos} {si:lK} {g:dY} {ek el:aZ}
theorem Ka {K:PySem.W.Frag} {σ : St} {H:Hp} {Q:VK} (nd:fr.Nodup) (hf:∀ j∈fr,j < σ.length) (h:gM K (tL si own.length fr g ek el) σ H Q):JT (Tq K si) own fr (Ab K (kpC own.length) g) (gM K ek) (gM K el) σ H Q:=by
 obtain ⟨F,ρ,Ls,R,Qd,w,q,k⟩:=h
 refine ⟨F,ρ,Ls,R,_,w,q,fun J H1 ds ρ1 F1 Ls1 w1 s1 wk q1=>?_⟩
 refine KJ w1 nd (fun j hj=>by rw [w1.len];exact hf j hj) wk q1 fun H2 F2 ys es ρc Ls2 Le re w2 s2 q2 p hp=>?_
 have s12:=s1.trans s2
 refine k (.ref p) _ (.dct true (ys.map (·.1)) es) _ F2 Ls2 (p :: Le) (.down cJ (re.laid hp)) (w2.putO (o:=.d ys) hp) ((s12.trans (Step.laid hp)).more fun a ha=>?_) q2
 rcases List.mem_cons.mp ha with rfl | ha
 ·by_cases e:∃ j,a∈Ls j
  ·exact .inl e
  ·cases q:H a with
   | none=>exact .inr rfl
   | some o=>rw [s12.keep a o q fun i z=>e ⟨i,z⟩] at hp;cases hp
 ·exact s12.srcD a ha
theorem JP {kp:Nat->Bool} {i:Nat} {y:Str} {py spos:Pos} (hf0:Gx kp i) (hN:X.N.Nodup) (hi:X.N[i]? = some y) (hx:Loc X.env.scope y) (hc:X.calm=true) (hit:SI X tg iter si) (S:CScope X scope own fr) (nd:fr.Nodup)
  (hg:∀ cl C fp s₂ H₂,SG (X.comp scope (bD X own fr) cl C fp s₂ H₂) (kpC own.length) tg g) (hk:∀ cl C fp s₂ H₂,SE (X.comp scope (bD X own fr) cl C fp s₂ H₂) kx ek) (he:∀ cl C fp s₂ H₂,SE (X.comp scope (bD X own fr) cl C fp s₂ H₂) elt el)
  (hsw:swapsWith (.DictComp kx elt [⟨tg,iter,[],0⟩] scope pos) (some (.Name y py)) spos.line X.env=pure true:=by rfl)
  (hs:∀ x,foldedSetIterable iter X.env x=pure x:=by intro _;rfl) (hf:X.fn y=true∨X.env.scope.names.lookup y=some .local:=by first | exact .inl rfl | exact .inr rfl | assumption) :
  SS X kp (.Assign [.Name y py] (.DictComp kx elt [⟨tg,iter,[],0⟩] scope pos) spos) (bh i (tL si own.length fr g ek el)):=
 (Jg (g:=Ab X.K (kpC own.length) g) (tk:=gM X.K ek) (te:=gM X.K el) hN hi hx hc hit S hg hk he hsw hs hf).wkI fun D σ H hl hh=>by
  obtain ⟨F,ρ,Ls,R,E,w,q,p⟩:=hh
  exact Ka nd (fun j hj=>by rw [hl];exact (S.frs j hj).1) ⟨F,ρ,Ls,R,_,w,q,fun v H1 d ρ1 F1 Ls1 Ld r1 w1 s1 q1=>p.nx _ H1 _ F1 _ (w1.set r1) s1.put (Oc hf0) q1⟩
end
section
variable {K:PySem.W.Frag} {F:Addr->Prop} {H:Hp} {σ : St} {ρ : En} {Ls:Nat->List Addr} {R:List Addr}
theorem WS.wr {i:Nat} {p:Addr} {us us':List V} {v:V} {t:D} (w:WS K F H σ ρ Ls R) (hp:H p=some (.lst us)) (hm:p∈Ls i) (hv : σ[i]? = some (some v)) (hi:i < ρ.length) (r:Rp K F (upd H p (.lst us')) v t (Ls i)) :
  WS K F (upd H p (.lst us')) σ (ρ.set i (some t)) Ls R∧Step F H Ls F (upd H p (.lst us')) Ls []:=by
 have hk:∀ a' o,a'≠p->H a'=some o->upd H p (.lst us') a'=some o:=fun a' o z e=>by rw [bf z];exact e
 have hF:¬ F p:=w.nf i p hm
 refine ⟨?_,⟨fun a' o e z=>hk a' o (fun c=>z i (by rw [c];exact hm)) e,fun _ h=>h,fun j a' h=>.inl ⟨j,h⟩,fun a' h=>absurd h (by simp)⟩⟩
 exact {
  len:=by rw [List.length_set];exact w.len
  sl:=fun j d e=>by
   by_cases c:j=i
   ·subst c
    rw [List.getElem?_set_self hi] at e
    cases e
    exact ⟨v,hv,r⟩
   ·rw [List.getElem?_set_ne (Ne.symm c)] at e
    obtain ⟨u,hu,ru⟩:=w.sl j d e
    exact ⟨u,hu,HR ru hp hk hF fun z=>c (w.dj j i p z hm)⟩
  em:=fun j hj=>w.em j fun d e=>by
   by_cases c:j=i
   ·subst c
    exact hj _ (List.getElem?_set_self hi)
   ·exact hj d (by rw [List.getElem?_set_ne (Ne.symm c)];exact e)
  nd:=w.nd
  dj:=w.dj
  rd:=w.rd
  rj:=w.rj
  nf:=w.nf
  nr:=w.nr
  tr:=fun a' h=>by
   obtain ⟨xs,e⟩:=w.tr a' h
   exact ⟨xs,hk a' _ (fun z=>w.rj i p hm (by rw [← z];exact h)) e⟩
  ft:=fun a' h=>by
   by_cases c:a'=p
   ·rw [c,cJ];simp
   ·rw [bf c];exact w.ft a' h }
end
section
variable {X:Cx} {kp:Nat->Bool} {i ja jb:Nat} {x y z:Str} {p0 p1 p2 p3 p4 p5 p6 p7 q1 q2 q3 q4 pos:Pos}
end
noncomputable def uq (k:Key):List Key->Option Nat
 | []=>none
 | j :: js=>if j=k then some 0 else (uq k js).map (· + 1)
theorem yV {k:Key}:∀ {kvs:List (Key×V)} {n:Nat} {v:V},uq k (kvs.map (·.1))=some n->(kvs.map (·.2))[n]? = some v->ud kvs k=some v
 | [],n,v,h,_=>by cases h
 | p :: kvs,n,v,h,e=>by
  rw [List.map_cons] at h e
  unfold uq at h
  by_cases c:p.1=k
  ·rw [if_pos c] at h
   cases h
   rw [pO c]
   simpa using e
  ·rw [if_neg c] at h
   obtain ⟨m,hm,rfl⟩:=Option.map_eq_some_iff.mp h
   rw [pN c]
   exact yV hm (by simpa using e)
noncomputable def DK (i:Nat) (sk sv:aZ):aZ:=fun ρ Q=>(∃ d0,ρ[i]? = some (some d0))∧sk ρ fun dk ρ1=>∃ k n ks ds es,dk.key=some k ∧ ρ1[i]? = some (some (.dct true ks ds))∧uq k ks=some n∧ds[n]? = some (.lst true es) ∧
 sv (ρ1.set i none) fun dv ρ2=>dv.sh=true ∧ ρ2.length = ρ1.length∧es.length<sizeLine∧Q .non (ρ2.set i (some (.dct true ks (ds.set n (.lst true (es++[dv]))))))
theorem NP {X:Cx} {x:Str} {i:Nat} {ek ev:Expr} {sk sv:aZ} {p0 q1 apos cpos:Pos} (hx:PE X (.Name x p0) (JV i)) (hk:SE X ek sk) (hv:SE X ev sv) (hp:oH ek)
  (hs:starEach [ev] X.env=[(false,eval ev X.env)]:=by rfl)
  (hbase:attributeBase (.Subscript (.Name x p0) ek q1) "append" X.env (eval (.Subscript (.Name x p0) ek q1) X.env)=eval (.Subscript (.Name x p0) ek q1) X.env:=by rfl)
  (hfew:((backTo cpos (starEach [ev] X.env)).all (fun x=>!x.1)&&(backToKw cpos (keywordEach [] X.env)).all (fun x=>x.1.isSome)
   && decide (([ev]:List Expr).length+([]:List Keyword).length+(if ([]:List Keyword).isEmpty then 0 else 1)<30))=true:=by rfl)
  (hline:(apos.endLine==cpos.line)=true:=by rfl) :
  SE X (.Call (.Attribute (.Subscript (.Name x p0) ek q1) "append" apos) [ev] [] cpos) (DK i sk sv):=
 (vC PySem.F.plainAttrs_list PySem.F.slot_list_append PySem.F.type_list_append fH (IW lM hx hk hp) (wZ hv Bt hs) hbase hfew hline hs rfl).wk fun σ H Q hh=>by
  obtain ⟨F,ρ,Ls,R,Qd,w,⟨⟨d0,e0⟩,q⟩,kk⟩:=hh
  obtain ⟨va,hva,_⟩:=w.sl i _ e0
  refine ⟨va,hva,F,ρ,Ls,R,_,w,q,fun vk H1 dk ρ1 F1 Ls1 Lk rk w1 s1 hh=>?_⟩
  obtain ⟨k,n,ks,ds,es,ek',e1,hn,hd,q1⟩:=hh
  obtain ⟨rfl,rfl⟩:=rk.key ek'
  rw [List.nil_append] at w1
  obtain ⟨va',hva',ra⟩:=w1.sl i _ e1
  rw [hva] at hva'
  cases hva'
  have nd:=w1.nd i
  have hi:i < ρ1.length:=(List.getElem?_eq_some_iff.mp e1).1
  have wt:=w1.take e1
  generalize hL:Ls1 i=Li at ra nd wt
  obtain ⟨a,kvs,L0,rfl,ha,rfl,rs,rfl⟩:∃ a kvs L0,va = .ref a∧H1 a=some (.dK kvs)∧ks=kvs.map (·.1)∧Rps X.K F1 H1 (kvs.map (·.2)) ds L0∧Li=a :: L0:=by
   cases ra with
   | down h r=>exact ⟨_,_,_,rfl,h,rfl,r,rfl⟩
  have nd0:=List.nodup_cons.mp nd
  obtain ⟨p,us,M,g1,g2,g3,g4,g5,g6⟩:=rs.setIn hd nd0.2
  refine ⟨a,kvs,k,.ref p,rfl,ha,rfl,yV hn g1,.inl ⟨rfl,us,.of g2⟩,F1,ρ1.set i none,jq Ls1 i [],(a :: L0)++R,_,wt,q1,fun z H2 dz ρ2 F2 Ls2 Lz rz w2 s2 hh=>?_⟩
  obtain ⟨hsh,hlen,hz,q2⟩:=hh
  cases rz.sh_nil hsh
  rw [List.nil_append] at w2
  have inR:∀ b∈a :: L0,b∈(a :: L0)++R:=fun b hb=>List.mem_append_left _ hb
  have ra2:Rp X.K F2 H2 (.ref a) (.dct true (kvs.map (·.1)) ds) (a :: L0):=Rp.step wt s2 (.down ha rs) inR
  have ha2:H2 a=some (.dK kvs):=s2.keep a _ ha fun j z=>wt.rj j a z (inR a List.mem_cons_self)
  have hp2:H2 p=some (.lst us):=s2.keep p _ g2 fun j z=>wt.rj j p z (inR p (List.mem_cons_of_mem _ g4))
  have rs2:Rps X.K F2 H2 (kvs.map (·.2)) ds L0:=Rps.step wt s2 rs fun b hb=>inR b (List.mem_cons_of_mem _ hb)
  obtain ⟨p',us',M',f1,f2,f3,f4,f5,f6⟩:=rs2.setIn hd nd0.2
  rw [g1] at f1
  cases f1
  rw [hp2] at f2
  cases f2
  have hi2:i < ρ2.length:=by rw [hlen];exact hi
  have hσ : σ.set i (some (.ref a)) = σ:=by
   apply List.ext_getElem?
   intro j
   by_cases c:j=i
   ·subst c;rw [List.getElem?_set_self (List.getElem?_eq_some_iff.mp hva).1,hva]
   ·rw [List.getElem?_set_ne (Ne.symm c)]
  have w3:=w2.set (i:=i) ra2
  rw [hσ] at w3
  have hpl:putL ρ2.length Ls2 i (a :: L0)=jq Ls2 i (a :: L0):=if_pos hi2
  rw [hpl] at w3
  have hm:p∈jq Ls2 i (a :: L0) i:=by rw [aH];exact List.mem_cons_of_mem _ f4
  have hF:¬ F2 p:=w3.nf i p hm
  have hne:p≠a:=fun z=>nd0.1 (by rw [← z];exact f4)
  have hk2:∀ b o,b≠p->H2 b=some o->upd H2 p (.lst (us++[z])) b=some o:=fun b o c e=>by rw [bf c];exact e
  have rn:Rps X.K F2 (upd H2 p (.lst (us++[z]))) (us++[z]) (es++[dz]) M':=by
   have r0:Rps X.K F2 H2 (us++[z]) (es++[dz]) (M'++([]++[])):=f3.append (.cons rz .nil)
   rw [List.append_nil,List.append_nil] at r0
   exact CP r0 hp2 hk2 hF f5
  obtain ⟨w4,s4⟩:=w3.wr (us':=us++[z]) (t:=.dct true (kvs.map (·.1)) (ds.set n (.lst true (es++[dz])))) hp2 hm hva (by rw [List.length_set];exact hi2) (by rw [aH];exact .down (hk2 a _ (Ne.symm hne) ha2) (f6 _ _ _ hk2 cJ rn hF))
  rw [List.set_set] at w4
  have s12:Step F1 H1 Ls1 F2 H2 (jq Ls2 i (a :: L0)) []:=by
   refine ⟨fun b o e nb=>s2.keep b o e fun j z=>?_,s2.mono,fun j b hb=>?_,fun b hb=>absurd hb List.not_mem_nil⟩
   ·by_cases c:j=i
    ·subst c;rw [aH] at z;exact absurd z List.not_mem_nil
    ·rw [aQ c] at z;exact nb j z
   ·by_cases c:j=i
    ·subst c;rw [aH] at hb;exact .inl ⟨j,by rw [hL];exact hb⟩
    ·rw [aQ c] at hb
     rcases s2.src j b hb with ⟨j',z⟩ | z
     ·by_cases c':j'=i
      ·subst c';rw [aH] at z;exact absurd z List.not_mem_nil
      ·rw [aQ c'] at z;exact .inl ⟨j',z⟩
     ·exact .inr z
  exact ⟨p,us,z,rfl,rfl,hp2,by rw [f3.length];exact hz,kk .non _ .non _ F2 _ [] .non w4 (((s1.trans s12).trans s4).more fun b hb=>absurd hb List.not_mem_nil) q2⟩
noncomputable def Ek (K:PySem.W.Frag) (mg:Str->Option Value) (x:Str) (ys:List Str):Prop:=∃ a,mg x=some (.ref a)∧KTup K a ys
theorem vG {X:Cx} {x:Str} {ys:List Str} {e:Expr} {o:Opd} {p apos cpos:Pos} (hg:Gl X x) (h:Ek X.K X.mg x ys) (ha:SA X [e] [o]) (hd:(x==("__debug__" : Str))=false:=by decide) (hs:starEach [e] X.env=[(false,eval e X.env)]:=by rfl)
  (hbase:attributeBase (.Name x p) "index" X.env (eval (.Name x p) X.env)=eval (.Name x p) X.env:=by rfl)
  (hfew:((backTo cpos (starEach [e] X.env)).all (fun x=>!x.1)&&(backToKw cpos (keywordEach [] X.env)).all (fun x=>x.1.isSome)
   && decide (([e]:List Expr).length+([]:List Keyword).length+(if ([]:List Keyword).isEmpty then 0 else 1)<30))=true:=by rfl)
  (hline:(apos.endLine==cpos.line)=true:=by rfl):SE X (.Call (.Attribute (.Name x p) "index" apos) [e] [] cpos) (sDo (ik ys) [o]):=by
 obtain ⟨a,hm,hk⟩:=h
 exact Gg hg hm hk ha hd hs hbase hfew hline
theorem JD {X:Cx} {tg:Expr} {x:Str} {ys:List Str} {p:Pos} (hg:Gl X x) (h:Ek X.K X.mg x ys) (hd:(x==("__debug__" : Str))=false:=by decide):SI X tg (.Name x p) (iGT ys):=by
 obtain ⟨a,hm,hk⟩:=h
 exact JF hg hm hk hd
noncomputable def Ej (P:Program) (w:World) (K:PySem.W.Frag) (x:Str) (nm:List (Str×Str)):Prop:=
 ∃ fs,Kq P w K x fs∧(∀ z y,nm.lookup z=some y -> ∃ a,fs.lookup z=some a∧PySem.W.nsIn K mainGlobals y=some (some (.ref a))) ∧ ∀ z,(nm.lookup z).isSome=(fs.lookup z).isSome
noncomputable def Dw (X:Cx) (x:Str) (nm:List (Str×Str)):R2:=fun y d H Q=>∃ a z,d = .ref a∧PySem.W.nsIn X.K mainGlobals x=some (some (.ref a))∧y = .str z∧Q (.bl (!(nm.lookup z).isSome)) H
theorem Fz {X:Cx} {x:Str} {nm:List (Str×Str)} (h:Ej X.prog X.w X.K x nm):OpR X (compareOp .NotIn) (Dw X x nm):=by
 obtain ⟨fs,hk,_,hn⟩:=h
 intro pins s σ H y d v u Q I ry rd h
 obtain ⟨a,z,e1,e2,e3,q⟩:=h
 rw [hn z] at q
 exact Fy hk pins s σ H y d v u Q I ry rd ⟨a,z,e1,e2,e3,q⟩
noncomputable def mW (x:Str) (nm:List (Str×Str)):List D->Option D
 | [.str z,.fn y]=>if y=x then some (.bl (!(nm.lookup z).isSome)) else none
 | _=>none
theorem yH {X:Cx} {x:Str} {nm:List (Str×Str)}:bM X.K (r2 (Dw X x nm)) (mW x nm):=by
 intro F H vs ds f Q r e q
 unfold mW at e
 split at e
 ·split at e
  ·rename_i hy
   subst hy
   cases e
   obtain ⟨y,d,L,M,rfl,r1,r2⟩:=r.two
   cases r1.isStr
   cases r2 with
   | fn n=>exact ⟨_,_,rfl,_,_,rfl,n,rfl,q _ _ _ (.ofFlat rfl)⟩
  ·cases e
 ·cases e
theorem NT {X:Cx} {x:Str} {nm:List (Str×Str)} {ek:Expr} {o:Opd} {p pos:Pos} (h:Ej X.prog X.w X.K x nm) (hf:FnAt X.K X.mg x) (hg:Gl X x) (hk:SO X ek o) (hp:oH ek) (hd:(x==("__debug__" : Str))=false:=by decide) :
  SE X (.Subscript (.Name x p) ek pos) (sDo (rQ x nm) [.val (sC (.fn x)),o]):=by
 obtain ⟨fs,h1,h2,_⟩:=h
 exact fB (Mg h1) (Eu h2) (aa (Jv hf hg hd)) hk hp
noncomputable def Dy (K:PySem.W.Frag):R2:=fun x y H Q=>∃ d xs,Dp K H x d∧Dp K H y (.tuple xs)∧PyData.canLayAll0 xs=true∧d.canLay0=true∧d.depth<=60∧Q (.bl (!xs.any fun y=>PyData.eqv y d)) H
theorem FJ {X:Cx} (hu:X.A.units+65<cLine):OpR X (compareOp .NotIn) (Dy X.K):=by
 intro pins s σ H x y v u Q I rx ry h
 obtain ⟨d,xs,hx,hy,c1,c2,hd,q⟩:=h
 obtain ⟨as,r1⟩:=hx.reads I rx
 obtain ⟨bs,r2⟩:=hy.reads I ry
 refine PySem.SeqAt.notIn_tuple_reads r2 r1 c1 c2 ?_ ⟨.bl _,H,I,rfl,q⟩
 have:=Nat.min_le_right (PyData.depthAll xs) d.depth
 omega
noncomputable def qX:List D->Option D
 | [.str z,.tup ds]=>if (D.pls ds&&PyData.canLayAll0 (D.dats ds)&&(PyData.str z).canLay0)=true then some (.bl (!(D.dats ds).any fun y=>PyData.eqv y (.str z))) else none
 | _=>none
theorem yI {K:PySem.W.Frag}:bM K (r2 (Dy K)) qX:=by
 intro F H vs ds f Q r e q
 unfold qX at e
 split at e
 ·rename_i z ts
  split at e
  ·rename_i h
   cases e
   rw [Bool.and_eq_true,Bool.and_eq_true] at h
   obtain ⟨x,y,L,M,rfl,r1,r2⟩:=r.two
   have d1:Dp K H x (.str z):=by
    have:=r1.dp (by rw [D.pl])
    rw [D.dat] at this
    exact this
   have d2:Dp K H y (.tuple (D.dats ts)):=by
    have:=r2.dp (by rw [D.pl];exact h.1.1)
    rw [D.dat] at this
    exact this
   exact ⟨_,_,rfl,_,_,d1,d2,h.1.2,h.2,by simp [PyData.depth],q _ _ _ (.ofFlat rfl)⟩
  ·cases e
 ·cases e
end L2
namespace Z
open PySem L2
noncomputable def gU:bV:=fnS 1 0 false
 (aC (sIf (jr (tB' (sDo dEq [.nam 0,.val (sC (.str ""))])) (tB' (sDo dGt [.val (sDo jY [.nam 0]),.val (sC (.int 40))])))
 (bR (sC (.bl false)))
 (bJ))
 (aC (sIf (cP (eQ (.val (sDo oK [.val (bN (Ly (aL 0)) 1 [] (gN 0) (cI) (sDo KQ [.nam 0,.val (sC (.str "0123456789"))]))]))))
 (bR (sC (.bl false)))
 (bJ))
 (bR (Js (sDo dEq [.nam 0,.val (sC (.str "0"))]) (sDo dNe [.val (cY 0 (.val (sC (.int 0)))),.val (sC (.str "0"))])))))
noncomputable def gf:bV:=fnS 1 0 false
 (aC (sIf (cP (eQ (.val (sDo oK [.val (bN (cM (aL 0)) 1 [] (gN 0) (cI) (aM 1 gU [.nam 0]))]))))
 (bR (sC .non))
 (bJ))
 (bR (bN (cM (aL 0)) 1 [] (gN 0) (cI) (sDo yx [.nam 0]))))
noncomputable def dw:bV:=fnS 2 0 false
 (bR (xG 1 (.val (bN (cM (aL 0)) 1 [] (gN 0) (cI) (sDo gP [.nam 0])))))
noncomputable def fW:bV:=fnS 1 9 false
 (aC (mG (gT [gN 1,gN 2,gN 3,gN 4,gN 5,gN 6,gN 7,gN 8]) (aL 0))
 (aC (bh 9 (eE [.val (aM 2 dw [.val (gb [.val (aL 1),.val (aL 2),.val (aL 3),.val (aL 5),.val (aL 6),.val (aL 7)]),.val (sC (.str " "))]),.val (Gb (eQ (.nam 8)) (sC (.str "on")) (sC (.str "off")))]))
 (bR (sDo (cL " ") [.val (sDo bC [.val (sDo bC [.val (eE [.val (sC (.str "work"))]),.val (aL 9)]),.val (bN (cM (aL 4)) 1 [] (gN 0) (cI) (aM 2 dw [.nam 0,.val (sC (.str ":"))]))])]))))
noncomputable def dN:bV:=fnS 1 5 false
 (aC (mG (gT [gN 1,gN 2,gN 3,gN 4]) (aL 0))
 (aC (bh 5 (eE [.val (tM (sC (.str "net ")) (zQ (cY 1 (.val (sC (.int 0))))))]))
 (aC (dW (iC jc 5 [.val (bN (cM (cY 1 (.val (sC (.int 1))))) 1 [] (gN 0) (cI) (sDo bC [.val (sC (.str "line ")),.val (aM 2 dw [.nam 0,.val (sC (.str " "))])]))]))
 (aC (dW (iC jc 5 [.val (bN (cM (aL 2)) 1 [] (gN 0) (cI) (aM 1 fW [.nam 0]))]))
 (aC (sIf (tB' (sDo rR [.nam 3,.val (sC .non)]))
 (dW (iC cG 5 [.val (sDo bC [.val (sC (.str "store ")),.val (aM 2 dw [.nam 3,.val (sC (.str " "))])])]))
 (bJ))
 (aC (dW (iC jc 5 [.val (bN (cM (aL 4)) 1 [] (gN 0) (cI) (sDo (cL " ") [.val (sDo bC [.val (eE [.val (sC (.str "hour"))]),.val (bN (cM (aL 0)) 1 [] (gN 0) (cI) (aM 2 dw [.nam 0,.val (sC (.str ":"))]))])]))]))
 (bR (sDo (cL "\n") [.nam 5]))))))))
noncomputable def bw:bV:=fnS 2 1 false
 (aC (bh 2 (aM 1 gf [.nam 0]))
 (aC (sIf (jr (tB' (sDo yz [.nam 2,.val (sC .non)])) (tB' (sDo dNe [.val (sDo jY [.nam 2]),.nam 1])))
 (jt)
 (bJ))
 (bR (sDo fK [.nam 2]))))
noncomputable def gG:bV:=fnS 1 0 false
 (bR (sDo dIx [.val (sFz (aM 2 bw [.nam 0,.val (sC (.int 1))])),.val (sC (.int 0))]))
noncomputable def fU:bV:=fnS 1 0 false
 (bR (aM 2 bw [.nam 0,.val (sC (.int 4))]))
noncomputable def fV:bV:=fnS 1 7 false
 (aC (sIf (jr (tB' (sDo dLt [.val (sDo jY [.nam 0]),.val (sC (.int 8))])) (tB' (sDo qX [.val (cY 0 (.val (sC (.int 6)))),.val (gb [.val (sC (.str "on")),.val (sC (.str "off"))])])))
 (jt)
 (bJ))
 (aC (mG (gT [gN 1,gN 2,gN 3,gN 4,gN 5,gN 6]) (aM 2 bw [.val (sSlTo (.nam 0) (.val (sC (.int 6)))),.val (sC (.int 6))]))
 (aC (bh 7 (sDo fK [.val (bN (cM (sSlFrom (.nam 0) (.val (sC (.int 7))))) 1 [] (gN 0) (cI) (aM 2 bw [.val (sDo (fM ":") [.nam 0]),.val (sC (.int 2))]))]))
 (bR (gb [.val (aL 1),.val (aL 2),.val (aL 3),.val (aL 7),.val (aL 4),.val (aL 5),.val (aL 6),.val (sDo dEq [.val (cY 0 (.val (sC (.int 6)))),.val (sC (.str "on"))])])))))
noncomputable def eZ:bV:=fnS 1 0 false
 (bR (aM 2 bw [.nam 0,.val (sC (.int 5))]))
noncomputable def eU:bV:=fnS 1 0 false
 (bR (sDo fK [.val (bN (cM (aL 0)) 1 [] (gN 0) (cI) (aM 2 bw [.val (sDo (fM ":") [.nam 0]),.val (sC (.int 3))]))]))
noncomputable def gW:bV:=fnS 1 5 false
 (aC (bh 1 (tL (iGT ["net", "line", "work", "store", "hour"]) 1 [] (gN 0) (aL 0) (eE [])))
 (aC (bh 2 (sC (.int 0)))
 (aC (iB (cM (sDo (fM "\n") [.nam 0])) (gN 3)
 (aC (bh 4 (sDo (fM " ") [.nam 3]))
 (aC (sIf (jr (tB' (sDo (mW "READERS" [("net", "read_net"),("line", "read_line"),("work", "read_work"),("store", "read_store"),("hour", "read_hour")]) [.val (cY 4 (.val (sC (.int 0)))),.val (sC (.fn "READERS"))])) (tB' (sDo dLt [.val (sDo (ik ["net", "line", "work", "store", "hour"]) [.val (cY 4 (.val (sC (.int 0))))]),.nam 2])))
 (jt)
 (bJ))
 (aC (bh 2 (sDo (ik ["net", "line", "work", "store", "hour"]) [.val (cY 4 (.val (sC (.int 0))))]))
 (aC (bh 5 (sDo (rQ "READERS" [("net", "read_net"),("line", "read_line"),("work", "read_work"),("store", "read_store"),("hour", "read_hour")]) [.val (sC (.fn "READERS")),.val (cY 4 (.val (sC (.int 0))))]))
 (dW (DK 1 (cY 4 (.val (sC (.int 0)))) (xF 5 [("read_net",1,gG),("read_line",1,fU),("read_work",1,fV),("read_store",1,eZ),("read_hour",1,eU)] [.val (sSlFrom (.nam 4) (.val (sC (.int 1))))]))))))))
 (aC (sIf (jr (tB' (sDo dNe [.val (sDo jY [.val (sDo lq [.val (aL 1),.val (sC (.str "net"))])]),.val (sC (.int 1))])) (tB' (sDo dGt [.val (sDo jY [.val (sDo lq [.val (aL 1),.val (sC (.str "store"))])]),.val (sC (.int 1))])))
 (jt)
 (bJ))
 (tO 1)))))
noncomputable def dM:bV:=fnS 1 3 false
 (aC (sIf (cP (eQ (.val (sDo eX [.nam 0,.val (sC (.ty "str"))]))))
 (jt)
 (bJ))
 (aC (bh 1 (aM 1 gW [.nam 0]))
 (aC (bh 2 (Gb (eQ (.val (sDo lq [.val (aL 1),.val (sC (.str "store"))]))) (sDo dIx [.val (sDo lq [.val (aL 1),.val (sC (.str "store"))]),.val (sC (.int 0))]) (sC .non)))
 (aC (bh 3 (gb [.val (gb [.val (sDo dIx [.val (sDo lq [.val (aL 1),.val (sC (.str "net"))]),.val (sC (.int 0))]),.val (sDo fK [.val (sDo lq [.val (aL 1),.val (sC (.str "line"))])])]),.val (sDo fK [.val (sDo lq [.val (aL 1),.val (sC (.str "work"))])]),.val (aL 2),.val (sDo fK [.val (sDo lq [.val (aL 1),.val (sC (.str "hour"))])])]))
 (aC (sIf (cP (eQ (.val (aM 1 gF [.nam 3]))))
 (jt)
 (bJ))
 (tO 3))))))
noncomputable def eY:bV:=fnS 2 5 true
 (aC (bh 2 (eE []))
 (aC (iB (nj (.val (sC (.int 1))) (.nam 1)) (gN 3)
 (dW (iC cG 2 [.val (gb [.val (aD 2 ao 0 [.nam 3]),.val (aL 3)])])))
 (aC (iB (di (.val (sDo oR [.val (aD 2 ao 0 [.val (sDo pX [.val (sC (.int 8)),.nam 1])]),.val (sDo uo [.val (sDo dGt [.nam 1,.val (sC (.int 1))])])]))) (gN 4)
 (aC (bh 5 (aD 2 ao 0 [.nam 1]))
 (dW (iC cG 2 [.val (gb [.val (aL 5),.val (sDo lZ [.val (sDo bC [.val (sDo bC [.nam 5,.val (sC (.int 1))]),.val (aD 2 ao 0 [.val (sDo pX [.nam 1,.val (sC (.int 1))])])]),.nam 1])])]))))
 (aC (bh 6 (sDo dIx [.val (eE [.val (sC (.int 99)),.val (sC (.int 60)),.val (sC (.int 25)),.val (sC (.int 12))]),.val (aD 2 ao 0 [.val (sC (.int 4))])]))
 (bR (gb [.val (aL 1),.val (sDo fK [.val (bN (cM (aL 2)) 2 [0,6] (gT [gN 0,gN 1]) (cI) (gb [.val (aL 0),.val (aL 1),.val (sDo bC [.val (sC (.int 1)),.val (aD 2 ao 2 [.val (sC (.int 9))])]),.val (aD 2 ao 2 [.val (sDo bC [.nam 3,.val (sC (.int 1))])])]))])]))))))
noncomputable def dR:bV:=fnS 2 6 true
 (aC (bh 2 (aD 2 ao 0 [.nam 1]))
 (aC (bh 3 (sDo dIx [.val (eE [.val (sC (.int 0)),.val (aD 2 ao 0 [.val (sC (.int 21))]),.val (aD 2 ao 0 [.val (sC (.int 6))])]),.val (aD 2 ao 0 [.val (sC (.int 3))])]))
 (aC (bh 4 (eE [.val (gb [.val (sDo bC [.val (sC (.int 1)),.val (aD 2 ao 0 [.val (sC (.int 20))])]),.val (aD 2 ao 0 [.val (sC (.int 60))])])]))
 (aC (sIf (tB' (sDo dEq [.val (aD 2 ao 0 [.val (sC (.int 2))]),.val (sC (.int 0))]))
 (dW (iC cG 4 [.val (gb [.val (sDo bC [.val (sC (.int 1)),.val (aD 2 ao 0 [.val (sC (.int 20))])]),.val (sDo bC [.val (sDo dIx [.val (cY 4 (.val (sC (.int 0)))),.val (sC (.int 1))]),.val (aD 2 ao 0 [.val (sC (.int 40))])])])]))
 (bJ))
 (aC (bh 5 (aD 2 ao 0 [.val (sC (.int 100))]))
 (aC (bh 6 (aD 2 ao 0 [.val (sC (.int 100))]))
 (aC (bh 7 (sDo dEq [.val (aD 2 ao 0 [.val (sC (.int 2))]),.val (sC (.int 0))]))
 (bR (gb [.val (aL 2),.val (aL 3),.val (aL 5),.val (sDo fK [.nam 4]),.val (aL 6),.val (sDo bC [.val (sC (.int 1)),.val (aD 2 ao 0 [.val (sC (.int 2))])]),.val (sDo bC [.val (sC (.int 1)),.val (aD 2 ao 0 [.val (sC (.int 2))])]),.val (aL 7)])))))))))
noncomputable def eO:bV:=fnS 2 3 true
 (aC (bh 2 (eE []))
 (aC (iB (di (.val (aD 2 ao 0 [.val (sC (.int 4))]))) (gN 3)
 (aC (bh 4 (sDo dIx [.val (eE [.val (aD 2 ao 0 [.val (sC (.int 101))]),.val (sC (.int 100))]),.val (sDo uo [.val (sDo dEq [.val (aD 2 ao 0 [.val (sC (.int 6))]),.val (sC (.int 0))])])]))
 (dW (iC cG 2 [.val (gb [.val (aD 2 ao 0 [.nam 1]),.val (aD 2 ao 0 [.val (sC (.int 31))]),.val (aL 4)])]))))
 (bR (sDo fK [.nam 2]))))
noncomputable def eN:bV:=fnS 2 2 true
 (aC (sIf (tB' (sDo dEq [.val (aD 2 ao 0 [.val (sC (.int 2))]),.val (sC (.int 0))]))
 (bR (sC .non))
 (bJ))
 (aC (bh 2 (sDo bC [.val (sC (.int 1)),.val (aD 2 ao 0 [.val (sC (.int 2))])]))
 (aC (bh 3 (sDo bC [.val (sC (.int 1)),.val (aD 2 ao 0 [.val (sC (.int 20))])]))
 (bR (gb [.val (aD 2 ao 0 [.nam 1]),.val (aL 2),.val (aD 2 ao 0 [.val (sDo bC [.nam 2,.val (sC (.int 1))])]),.val (aL 3),.val (aD 2 ao 0 [.val (sDo bC [.nam 3,.val (sC (.int 1))])])])))))
noncomputable def cZ:bV:=fnS 1 6 true
 (aC (bh 1 (sDo bC [.val (sC (.int 1)),.val (aD 2 ao 0 [.val (sC (.int 4))])]))
 (aC (bh 2 (sDo bC [.val (sC (.int 1)),.val (aD 2 ao 0 [.val (sC (.int 3))])]))
 (aC (bh 3 (aD 2 ao 0 [.val (sC (.int 3))]))
 (aC (sIf (tB' (sDo dEq [.val (aD 2 ao 0 [.val (sC (.int 8))]),.val (sC (.int 0))]))
 (aC (bh 3 (sC (.int 3)))
 (bh 2 (sDo bC [.val (sC (.int 1)),.val (aD 2 ao 0 [.val (sC (.int 2))])])))
 (bJ))
 (aC (bh 4 (aD 2 eY 0 [.nam 1]))
 (aC (bh 5 (sDo fK [.val (bN (di (.nam 3)) 1 [0,1] (gN 0) (cI) (aD 2 dR 1 [.nam 2]))]))
 (aC (bh 6 (aD 2 eN 0 [.nam 1]))
 (bR (gb [.val (aL 4),.val (aL 5),.val (aL 6),.val (sDo fK [.val (bN (di (.nam 2)) 1 [0,1] (gN 0) (cI) (aD 2 eO 1 [.nam 2]))])])))))))))
noncomputable def fQ:bV:=fnS 1 16 false
 (aC (mG (gT [gN 1,gN 2,gN 3,gN 4]) (aL 0))
 (aC (bh 5 (eE [.val (sDo bC [.val (sC (.str "net ")),.val (sDo gP [.val (cY 1 (.val (sC (.int 0))))])])]))
 (aC (iB (cM (cY 1 (.val (sC (.int 1))))) (gN 6)
 (dW (iC cG 5 [.val (sDo bC [.val (sC (.str "line ")),.val (sDo (cL " ") [.val (bN (cM (aL 6)) 1 [] (gN 0) (cI) (sDo gP [.nam 0]))])])])))
 (aC (iB (cM (aL 2)) (gT [gN 7,gN 8,gN 9,gN 10,gN 11,gN 12,gN 13,gN 14])
 (aC (bh 15 (sDo bC [.val (bN (cM (gb [.val (aL 7),.val (aL 8),.val (aL 9),.val (aL 11),.val (aL 12),.val (aL 13)])) 1 [] (gN 0) (cI) (sDo gP [.nam 0])),.val (eE [.val (sDo dIx [.val (eE [.val (sC (.str "off")),.val (sC (.str "on"))]),.val (sDo uo [.nam 14])])])]))
 (aC (bh 15 (sDo bC [.nam 15,.val (bN (cM (aL 10)) 2 [] (gT [gN 0,gN 1]) (cI) (sDo bC [.val (sDo bC [.val (sDo gP [.nam 0]),.val (sC (.str ":"))]),.val (sDo gP [.nam 1])]))]))
 (dW (iC cG 5 [.val (sDo bC [.val (sC (.str "work ")),.val (sDo (cL " ") [.nam 15])])])))))
 (aC (sIf (tB' (sDo rR [.nam 3,.val (sC .non)]))
 (dW (iC cG 5 [.val (sDo bC [.val (sC (.str "store ")),.val (sDo (cL " ") [.val (bN (cM (aL 3)) 1 [] (gN 0) (cI) (sDo gP [.nam 0]))])])]))
 (bJ))
 (aC (iB (cM (aL 4)) (gN 16)
 (dW (iC cG 5 [.val (sDo (cL " ") [.val (sDo bC [.val (eE [.val (sC (.str "hour"))]),.val (bN (cM (aL 16)) 1 [] (gN 0) (cI) (sDo (cL ":") [.val (bN (cM (aL 0)) 1 [] (gN 0) (cI) (sDo gP [.nam 0]))]))])])])))
 (bR (sDo (cL "\n") [.nam 5]))))))))
noncomputable def bB:Nat->bV
 | 0=>fnS 1 0 false jt
 | m+1=>fnS 1 0 false
   (aC (sIf (eQ (.val (sDo eX [.nam 0,.val (sC (.ty "tuple"))])))
   (bR (sDo oK [.val (bN (cM (aL 0)) 1 [] (gN 0) (cI) (aM 1 (bB m) [.nam 0]))]))
   (bJ))
   (bR (Js (sDo yz [.nam 0,.val (sC .non)]) (sDo eX [.nam 0,.val (sC (.ty "int"))]))))
noncomputable def jD:bV:=fnS 1 5 false
 (aC (iB (di (.val (sDo Ep [.val (sC (.int 1)),.val (sDo yC [.val (sC (.int 3)),.val (sDo jY [.nam 0])])]))) (gN 1)
 (qL [2,3] (aC (bh 2 (qp 1 cZ [.val (aM 2 iR [.nam 0,.nam 1])]))
 (aC (bh 3 (aM 1 dN [.nam 2]))
 (aC (sIf (jr (cP (eQ (.val (sDo eX [.nam 3,.val (sC (.ty "str"))])))) (tB' (sDo dNe [.nam 3,.val (aM 1 fQ [.nam 2])])))
 (bR (sC (.bl false)))
 (bJ))
 (iB (di (.val (sC (.int 2)))) (gN 4)
 (qL [5] (aC (bh 5 (aM 1 dM [.nam 3]))
 (aC (sIf (jr (tB' (sDo dNe [.nam 5,.nam 2])) (cP (eQ (.val (aM 1 (bB 8) [.nam 5])))))
 (bR (sC (.bl false)))
 (bJ))
 (sIf (tB' (sDo dNe [.val (bN (cM (cY 5 (.val (sC (.int 1))))) 1 [] (gN 0) (cI) (sDo eX [.val (cY 0 (.val (sC (.int 7)))),.val (sC (.ty "bool"))])),.val (bN (cM (cY 2 (.val (sC (.int 1))))) 1 [] (gN 0) (cI) (sC (.bl true)))]))
 (bR (sC (.bl false)))
 (bJ)))))))))))
 (bR (sC (.bl true))))
end Z
namespace Z
open PySem L2 TM PyProof.Rows
theorem ut {bag:D} {n:Nat} (hB:Bag bag) (hn:0<n) {Q:D->Option D->Prop} (h:∀ (bag':D) (o:Option Sr),Bag bag'->(∀ s,o=some s->s.p<n∧(1<=s.a∧s.a<=2)∧s.b<=s.a∧(1<=s.c∧s.c<=20)∧s.g<=s.c)->Q (stD o) (some bag')):eN [bag,.int n] Q:=by
 dsimp? only [eN]
 refine aV hB (by decide) fun bag1 r1 hB1 h1=>?_
 dsimp? only [hB1.clean]
 refine qb (fun hc=>?_) fun hc=>?_
 ·(try dsimp? only)
  exact h bag1 none hB1 fun s e=>by cases e
 ·dsimp? only [hB1.clean]
  refine aV hB1 (by decide) fun bag2 a hB2 ha=>?_
  dsimp? only [hB2.clean]
  refine aV hB2 (by decide) fun bag3 c hB3 hcc=>?_
  dsimp? only [hB3.clean]
  refine aV hB3 (by omega) fun bag4 p hB4 hp=>?_
  dsimp? only [hB4.clean]
  refine aV hB4 (by omega) fun bag5 b hB5 hb=>?_
  dsimp? only [hB5.clean]
  refine aV hB5 (by omega) fun bag6 g hB6 hg=>?_
  dsimp? only [hB6.clean]
  have e1:(1:Int)+(a:Int)=((1+a:Nat):Int):=by omega
  have e2:(1:Int)+(c:Int)=((1+c:Nat):Int):=by omega
  rw [e1,e2]
  exact h bag6 (some ⟨p,1+a,b,1+c,g⟩) hB6 fun s e=>by cases e;exact ⟨by show p<n;omega,by show 1<=1+a∧1+a<=2;omega,by show b<=1+a;omega,by show 1<=1+c∧1+c<=20;omega,by show g<=1+c;omega⟩
theorem pkB (x y:Int) (b:Bool):∃ z,(z=x∨z=y)∧dIx [.lst true [.int x,.int y],.int (if b=true then 1 else 0)]=some (.int z):=by
 cases b
 ·exact ⟨x,.inl rfl,rfl⟩
 ·exact ⟨y,.inr rfl,rfl⟩
theorem uv {bag:D} {n:Nat} (hB:Bag bag) (hn:0<n) {Q:D->Option D->Prop} (h:∀ (bag':D) (l:List Wt),Bag bag'->l.length<=3->(∀ t∈l,t.p<n∧t.s<=30∧t.w<=100)->Q (hrD l) (some bag')):eO [bag,.int n] Q:=by
 have p62:(2:Int) ^ 62=4611686018427387904:=by decide
 dsimp? only [eO]
 refine aV hB (by decide) fun bag1 r1 hB1 h1=>?_
 have e1:(r1:Int).toNat=r1:=by omega
 dsimp? only [hB1.clean]
 rw [e1]
 refine aR ⟨by omega,by omega,by omega⟩ ?_
 (try dsimp? only)
 refine jj (fun k ρ => ∃ (bag:D) (l:List Wt) (x3 x4:Option D),ρ = [some bag,some (.int n),some (.lst true (l.map Wt.d)),x3,x4]∧Bag bag∧l.length=k ∧ ∀ t∈l,t.p<n∧t.s<=30∧t.w<=100) 0 ⟨bag1,[],_,_,rfl,hB1,rfl,fun t h=>by simp at h⟩ ?_ ?_
 ·rintro k d ρ hd ⟨bag,l,x3,x4,rfl,hB,hl,ht⟩ P hP
  obtain ⟨hk,rfl⟩:=mF hd
  rw [Nat.zero_add] at hl hP
  dsimp? only
  refine aV hB (by decide) fun bag2 w hB2 hw=>?_
  dsimp? only [hB2.clean]
  refine aV hB2 (by decide) fun bag3 r3 hB3 h3=>?_
  obtain ⟨z,hz,ix⟩:=pkB (w:Int) 100 ((r3:Int)==0)
  obtain ⟨z,rfl⟩:∃ k:Nat,z=(k:Int):=⟨z.toNat,by omega⟩
  dsimp? only [hB3.clean,ix]
  refine aV hB3 (by omega) fun bag4 p hB4 hp=>?_
  dsimp? only [hB4.clean]
  refine aV hB4 (by decide) fun bag5 s hB5 hs=>?_
  dsimp? only [hB5.clean,Mz (ds:=l.map Wt.d) (d:=.tup [.int (p:Int),.int (s:Int),.int (z:Int)]) (by rw [List.length_map];omega)]
  have e:l.map Wt.d++[D.tup [.int (p:Int),.int (s:Int),.int (z:Int)]]=(l++[(⟨p,s,z⟩:Wt)]).map Wt.d:=by rw [List.map_append];rfl
  rw [e]
  refine hP _ ⟨bag5,l++[⟨p,s,z⟩],_,_,rfl,hB5,by simp [hl],fun t' hm=>?_⟩
  rcases List.mem_append.mp hm with q | q
  ·exact ht t' q
  ·rw [List.mem_singleton.mp q]
   exact ⟨by show p<n;omega,by show s<=30;omega,by show z<=100;omega⟩
 rintro ρ ⟨bag2,l,x3,x4,rfl,hB2,hl,ht⟩
 rw [tK,Nat.zero_add] at hl
 dsimp? only [DX]
 exact h bag2 l hB2 (by omega) ht
noncomputable def Oz:bW:= 
 (aC (bh 5 (aD 2 ao 0 [.val (sC (.int 100))]))
 (aC (bh 6 (aD 2 ao 0 [.val (sC (.int 100))]))
 (aC (bh 7 (sDo dEq [.val (aD 2 ao 0 [.val (sC (.int 2))]),.val (sC (.int 0))]))
 (bR (gb [.val (aL 2),.val (aL 3),.val (aL 5),.val (sDo fK [.nam 4]),.val (aL 6),.val (sDo bC [.val (sC (.int 1)),.val (aD 2 ao 0 [.val (sC (.int 2))])]),.val (sDo bC [.val (sC (.int 1)),.val (aD 2 ao 0 [.val (sC (.int 2))])]),.val (aL 7)])))))
theorem TF:dR=fnS 2 6 true
 (aC (bh 2 (aD 2 ao 0 [.nam 1]))
 (aC (bh 3 (sDo dIx [.val (eE [.val (sC (.int 0)),.val (aD 2 ao 0 [.val (sC (.int 21))]),.val (aD 2 ao 0 [.val (sC (.int 6))])]),.val (aD 2 ao 0 [.val (sC (.int 3))])]))
 (aC (bh 4 (eE [.val (gb [.val (sDo bC [.val (sC (.int 1)),.val (aD 2 ao 0 [.val (sC (.int 20))])]),.val (aD 2 ao 0 [.val (sC (.int 60))])])]))
 (aC (sIf (tB' (sDo dEq [.val (aD 2 ao 0 [.val (sC (.int 2))]),.val (sC (.int 0))]))
 (dW (iC cG 4 [.val (gb [.val (sDo bC [.val (sC (.int 1)),.val (aD 2 ao 0 [.val (sC (.int 20))])]),.val (sDo bC [.val (sDo dIx [.val (cY 4 (.val (sC (.int 0)))),.val (sC (.int 1))]),.val (aD 2 ao 0 [.val (sC (.int 40))])])])]))
 (bJ)) Oz)))):=by unfold dR Oz;with_reducible rfl
theorem OD {bag:D} {n p a:Nat} {ps:List (Nat×Nat)} (hB:Bag bag) (hp:p<n) (ha:a<=20) (hps:(∃ x,ps=[x]∧PcS x) ∨ ∃ x y,ps=[x,y]∧PcS x∧PcS y∧x.2<=y.2) {Q:D->Option D->Prop} (h:∀ (bag':D) (w:Wk),Bag bag'->WkS n w->Q w.d (some bag')) :
  Oz [some bag,some (.int n),some (.int p),some (.int a),some (.lst true (ps.map pcD)),none,none,none] { nx:=fun ρ => Q .non (slot ρ 0),rt:=fun d ρ => Q d (slot ρ 0) }:=by
 dsimp? only [Oz]
 refine aV hB (by decide) fun bag1 q1 hB1 k1=>?_
 dsimp? only [hB1.clean]
 refine aV hB1 (by omega) fun bag2 q2 hB2 k2=>?_
 dsimp? only [hB2.clean]
 refine aV hB2 (by decide) fun bag3 q3 hB3 k3=>?_
 dsimp? only [hB3.clean,tV]
 refine aV hB3 (by decide) fun bag4 q4 hB4 k4=>?_
 dsimp? only [hB4.clean,tV]
 refine aV hB4 (by decide) fun bag5 q5 hB5 k5=>?_
 dsimp? only [hB5.clean,tV]
 have e1:(1:Int)+(q4:Int)=((1+q4:Nat):Int):=by omega
 have e2:(1:Int)+(q5:Int)=((1+q5:Nat):Int):=by omega
 rw [e1,e2]
 exact h bag5 ⟨p,a,q1,ps,q2,1+q4,1+q5,(q3:Int)==0⟩ hB5 ⟨hp,ha,by show q1<=99;omega,hps,by show q2<=99;omega,by show 1<=1+q4∧1+q4<=2;omega,by show 1<=1+q5∧1+q5<=2;omega⟩
theorem Km {XT:bW} {bag:D} {n:Nat} (hT:∀ {bag:D} {p a:Nat} {ps:List (Nat×Nat)},Bag bag->p<n->a<=20->((∃ x,ps=[x]∧PcS x) ∨ ∃ x y,ps=[x,y]∧PcS x∧PcS y∧x.2<=y.2) -> ∀ {Q:D->Option D->Prop},(∀ (bag':D) (w:Wk),Bag bag'->WkS n w->Q w.d (some bag'))->XT [some bag,some (.int n),some (.int p),some (.int a),some (.lst true (ps.map pcD)),none,none,none] { nx:=fun ρ => Q .non (slot ρ 0),rt:=fun d ρ => Q d (slot ρ 0) })
  (hB:Bag bag) (hn:0<n) {Q:D->Option D->Prop} (h:∀ (bag':D) (w:Wk),Bag bag'->WkS n w->Q w.d (some bag')):fnS 2 6 true
 (aC (bh 2 (aD 2 ao 0 [.nam 1]))
 (aC (bh 3 (sDo dIx [.val (eE [.val (sC (.int 0)),.val (aD 2 ao 0 [.val (sC (.int 21))]),.val (aD 2 ao 0 [.val (sC (.int 6))])]),.val (aD 2 ao 0 [.val (sC (.int 3))])]))
 (aC (bh 4 (eE [.val (gb [.val (sDo bC [.val (sC (.int 1)),.val (aD 2 ao 0 [.val (sC (.int 20))])]),.val (aD 2 ao 0 [.val (sC (.int 60))])])]))
 (aC (sIf (tB' (sDo dEq [.val (aD 2 ao 0 [.val (sC (.int 2))]),.val (sC (.int 0))]))
 (dW (iC cG 4 [.val (gb [.val (sDo bC [.val (sC (.int 1)),.val (aD 2 ao 0 [.val (sC (.int 20))])]),.val (sDo bC [.val (sDo dIx [.val (cY 4 (.val (sC (.int 0)))),.val (sC (.int 1))]),.val (aD 2 ao 0 [.val (sC (.int 40))])])])]))
 (bJ)) XT)))) [bag,.int n] Q:=by
 dsimp? only
 refine aV hB (by omega) fun bag1 p hB1 hp=>?_
 dsimp? only [hB1.clean]
 refine aV hB1 (by decide) fun bag2 a1 hB2 h2=>?_
 dsimp? only [hB2.clean]
 refine aV hB2 (by decide) fun bag3 a2 hB3 h3=>?_
 dsimp? only [hB3.clean]
 refine aV hB3 (by decide) fun bag4 r hB4 hr=>?_
 obtain ⟨a,ha,ix⟩:=pk3 0 (a1:Int) (a2:Int) r (by omega)
 obtain ⟨a,rfl⟩:∃ k:Nat,a=(k:Int):=⟨a.toNat,by omega⟩
 dsimp? only [hB4.clean,ix]
 refine aV hB4 (by decide) fun bag5 r5 hB5 h5=>?_
 dsimp? only [hB5.clean]
 refine aV hB5 (by decide) fun bag6 c hB6 hc6=>?_
 have ec:(1:Int)+(r5:Int)=((1+r5:Nat):Int):=by omega
 rw [ec]
 dsimp? only [hB6.clean]
 refine aV hB6 (by decide) fun bag7 r7 hB7 h7=>?_
 dsimp? only [hB7.clean]
 refine qb (fun hc=>?_) fun hc=>?_
 ·dsimp? only [hB7.clean]
  refine aV hB7 (by decide) fun bag8 r8 hB8 h8=>?_
  have ix0:ixF (.lst true [.tup [.int ((1+r5:Nat):Int),.int (c:Int)]]) 0=some (.tup [.int ((1+r5:Nat):Int),.int (c:Int)],none):=rfl
  have ix1:dIx [.tup [.int ((1+r5:Nat):Int),.int (c:Int)],.int 1]=some (.int (c:Int)):=rfl
  dsimp? only [hB8.clean,ix0,ix1]
  refine aV hB8 (by omega) fun bag9 r9 hB9 h9=>?_
  have e1:(1:Int)+(r8:Int)=((1+r8:Nat):Int):=by omega
  have e2:(c:Int)+(r9:Int)=((c+r9:Nat):Int):=by omega
  rw [e1]
  dsimp? only [hB9.clean,e2,Mz (ds:=[D.tup [.int ((1+r5:Nat):Int),.int (c:Int)]]) (d:=.tup [.int ((1+r8:Nat):Int),.int ((c+r9:Nat):Int)]) (by simp)]
  exact hT (ps:=[(1+r5,c),(1+r8,c+r9)]) hB9 (by omega) (by omega) (.inr ⟨_,_,rfl,⟨by show 1<=1+r5;omega,by show 1+r5<=20;omega,by show c<=99;omega⟩,⟨by show 1<=1+r8;omega,by show 1+r8<=20;omega,by show c+r9<=99;omega⟩,by show c<=c+r9;omega⟩) h
 ·(try dsimp? only)
  exact hT (ps:=[(1+r5,c)]) hB7 (by omega) (by omega) (.inl ⟨_,rfl,⟨by show 1<=1+r5;omega,by show 1+r5<=20;omega,by show c<=99;omega⟩⟩) h
theorem wD {bag:D} {n:Nat} (hB:Bag bag) (hn:0<n) {Q:D->Option D->Prop} (h:∀ (bag':D) (w:Wk),Bag bag'->WkS n w->Q w.d (some bag')):dR [bag,.int n] Q:=by
 rw [TF]
 exact Km (fun h1 h2 h3 h4 _ h5=>OD h1 h2 h3 h4 h5) hB hn h
theorem Ig {n:Nat}:∀ {ps:List (Nat×Nat)} {es:List D},es.length=ps.length->(∀ (i:Nat) p d,ps[i]? = some p->es[i]? = some d -> ∃ l:Ln,l.Ok n∧l.a=p.1∧l.b=p.2∧d=l.d) ->
  ∃ ls:List Ln,es=ls.map Ln.d∧(∀ l∈ls,l.Ok n)∧ls.length=ps.length ∧ ∀ p∈ps,∃ l∈ls,l.a=p.1∧l.b=p.2
 | [],[],_,_=>⟨[],rfl,fun l h=>by simp at h,rfl,fun p h=>by simp at h⟩
 | p :: ps,e :: es,hl,h=>by
  obtain ⟨l,ho,ha,hb,rfl⟩:=h 0 p e rfl rfl
  obtain ⟨ls,rfl,h1,h2,h3⟩:=Ig (ps:=ps) (es:=es) (by simpa using hl) fun i p d e1 e2=>h (i+1) p d (by simpa using e1) (by simpa using e2)
  refine ⟨l :: ls,rfl,fun x hx=>?_,by simp [h2],fun x hx=>?_⟩
  ·rcases List.mem_cons.mp hx with rfl | hx
   ·exact ho
   ·exact h1 x hx
  ·rcases List.mem_cons.mp hx with rfl | hx
   ·exact ⟨l,by simp,ha,hb⟩
   ·obtain ⟨l',hl',e⟩:=h3 x hx
    exact ⟨l',List.mem_cons_of_mem _ hl',e⟩
 | [],_ :: _,h,_=>by simp at h
 | _ :: _,[],h,_=>by simp at h
noncomputable def n4A:bW:=(dW (iC cG 2 [.val (gb [.val (aD 2 ao 0 [.nam 3]),.val (aL 3)])]))
noncomputable def n4B:bW:=(aC (bh 5 (aD 2 ao 0 [.nam 1]))
 (dW (iC cG 2 [.val (gb [.val (aL 5),.val (sDo lZ [.val (sDo bC [.val (sDo bC [.nam 5,.val (sC (.int 1))]),.val (aD 2 ao 0 [.val (sDo pX [.nam 1,.val (sC (.int 1))])])]),.nam 1])])])))
noncomputable def n4C:bW:=(aC (bh 6 (sDo dIx [.val (eE [.val (sC (.int 99)),.val (sC (.int 60)),.val (sC (.int 25)),.val (sC (.int 12))]),.val (aD 2 ao 0 [.val (sC (.int 4))])]))
 (bR (gb [.val (aL 1),.val (sDo fK [.val (bN (cM (aL 2)) 2 [0,6] (gT [gN 0,gN 1]) (cI) (gb [.val (aL 0),.val (aL 1),.val (sDo bC [.val (sC (.int 1)),.val (aD 2 ao 2 [.val (sC (.int 9))])]),.val (aD 2 ao 2 [.val (sDo bC [.nam 3,.val (sC (.int 1))])])]))])])))
theorem Uw:eY=fnS 2 5 true
 (aC (bh 2 (eE []))
 (aC (iB (nj (.val (sC (.int 1))) (.nam 1)) (gN 3) n4A)
 (aC (iB (di (.val (sDo oR [.val (aD 2 ao 0 [.val (sDo pX [.val (sC (.int 8)),.nam 1])]),.val (sDo uo [.val (sDo dGt [.nam 1,.val (sC (.int 1))])])]))) (gN 4) n4B) n4C))):=by unfold eY n4A n4B n4C;with_reducible rfl
theorem Rj {bag:D} {n k:Nat} {ps:List (Nat×Nat)} {x4 x5 x6:Option D} {E:EndD} (hB:Bag bag) (hk:1<=k) (hl:ps.length<=50) (h:∀ (bag':D) (q:Nat),Bag bag'->q<k->E.nx [some bag',some (.int n),some (.lst true ((ps++[(q,k)]).map pcD)),some (.int (k:Int)),x4,x5,x6]) :
  n4A [some bag,some (.int n),some (.lst true (ps.map pcD)),some (.int (k:Int)),x4,x5,x6] E:=by
 dsimp? only [n4A]
 refine aV hB (by omega) fun bag1 q hB1 hq=>?_
 have e:ps.map pcD++[D.tup [.int (q:Int),.int (k:Int)]]=(ps++[(q,k)]).map pcD:=by rw [List.map_append];rfl
 dsimp? only [hB1.clean,Mz (ds:=ps.map pcD) (d:=.tup [.int (q:Int),.int (k:Int)]) (by rw [List.length_map];omega)]
 rw [e]
 exact h bag1 q hB1 (by omega)
theorem Rk {bag:D} {n:Nat} {ps:List (Nat×Nat)} {x3 x4 x5 x6:Option D} {E:EndD} (hB:Bag bag) (hn:1<n) (hl:ps.length<=50) (h:∀ (bag':D) (q w:Nat) (x5:Option D),Bag bag'->q<n->w<n->q≠w->E.nx [some bag',some (.int n),some (.lst true ((ps++[(q,w)]).map pcD)),x3,x4,x5,x6]) :
  n4B [some bag,some (.int n),some (.lst true (ps.map pcD)),x3,x4,x5,x6] E:=by
 have hn0:(n:Int)≠0:=by omega
 dsimp? only [n4B]
 refine aV hB (by omega) fun bag1 q hB1 hq=>?_
 dsimp? only [hB1.clean]
 refine aV hB1 (by omega) fun bag2 v hB2 hv=>?_
 obtain ⟨w,ew,hw,hwo⟩:∃ w:Nat,((q:Int)+1+(v:Int)).fmod (n:Int)=(w:Int)∧w<n∧q≠w:=by
  refine ⟨(q+1+v) % n,?_,Nat.mod_lt _ (by omega),?_⟩
  ·rw [show (q:Int)+1+(v:Int)=((q+1+v:Nat):Int) by omega,Int.fmod_eq_emod_of_nonneg _ (by omega),Int.natCast_emod]
  ·by_cases c:q+1+v<n
   ·rw [Nat.mod_eq_of_lt c];omega
   ·rw [Nat.mod_eq_sub_mod (by omega),Nat.mod_eq_of_lt (by omega)];omega
 have e:ps.map pcD++[D.tup [.int (q:Int),.int (w:Int)]]=(ps++[(q,w)]).map pcD:=by rw [List.map_append];rfl
 dsimp? only [hB2.clean,hn0,ew,Mz (ds:=ps.map pcD) (d:=.tup [.int (q:Int),.int (w:Int)]) (by rw [List.length_map];omega)]
 rw [e]
 exact h bag2 q w _ hB2 (by omega) hw hwo
theorem Rm {bag:D} {n:Nat} {ps:List (Nat×Nat)} {x3 x4 x5 x6:Option D} (hB:Bag bag) (hn1:1<=n) (hn4:n<=4) (hl:ps.length<=6) (ho:∀ p∈ps,p.1<n∧p.2<n∧p.1≠p.2) (ht:∀ r,1<=r->r<n -> ∃ p∈ps,p.1<r∧p.2=r)
  {Q:D->Option D->Prop} (h:∀ (bag':D) (ls:List Ln),Bag bag'->Good n ls->Q (jk n ls) (some bag')) :
  n4C [some bag,some (.int n),some (.lst true (ps.map pcD)),x3,x4,x5,x6] { nx:=fun ρ => Q .non (slot ρ 0),rt:=fun d ρ => Q d (slot ρ 0) }:=by
 dsimp? only [n4C]
 refine aV hB (by decide) fun bag1 r hB1 hr=>?_
 obtain ⟨m',hm,ix⟩:=pk4 99 60 25 12 r (by omega)
 obtain ⟨m,rfl⟩:∃ m:Nat,m'=(m:Int):=⟨m'.toNat,by omega⟩
 dsimp? only [hB1.clean,ix,tV,Qu,List.length_map]
 refine aR (by omega) ?_
 (try dsimp? only)
 refine mV pcD (fun p d=>∃ l:Ln,l.Ok n∧l.a=p.1∧l.b=p.2∧d=l.d) (fun ρ => ∃ x y d,ρ = [x,y,some d,some (.int (m:Int))]∧Bag d) ⟨_,_,_,rfl,hB1⟩ ?_ ?_
 ·rintro p hp ρ ⟨x,y,d,rfl,hd⟩ P hP
  obtain ⟨h1,h2,h3⟩:=ho p hp
  rw [show pcD p = .tup [.int (p.1:Int),.int (p.2:Int)] from rfl]
  dsimp? only
  refine aV hd (by decide) fun bag2 s hB2 hs=>?_
  dsimp? only [hB2.clean]
  refine aV hB2 (by omega) fun bag3 t hB3 ht=>?_
  have e4:(1:Int)+(s:Int)=((1+s:Nat):Int):=by omega
  dsimp? only [hB3.clean,e4]
  exact hP _ _ ⟨⟨p.1,p.2,1+s,t⟩,⟨h1,h2,h3,by show 1<=1+s∧1+s<=9;omega,by show t<=99;omega⟩,rfl,rfl,rfl⟩ ⟨_,_,_,rfl,hB3⟩
 rintro es ρ hl2 hE ⟨x,y,bag2,rfl,hB2⟩
 obtain ⟨ls,rfl,hok,hll,hm2⟩:=Ig (n:=n) hl2 hE
 have hcn:Cn n ls:=Ov fun r h1 h2=>by
  obtain ⟨p,hp,q1,q2⟩:=ht r h1 h2
  obtain ⟨l,hl,ea,eb⟩:=hm2 p hp
  exact ⟨l,hl,p.1,q1,.inr ⟨ea,by rw [eb,q2]⟩⟩
 dsimp? only [hB2.clean,lW]
 exact h bag2 ls hB2 ⟨hn1,hn4,by omega,hok,(TY hn1 hok).mpr hcn⟩
theorem MJ {XA XB XC:bW} {bag:D} {n:Nat}
  (hA:∀ {bag:D} {k:Nat} {ps:List (Nat×Nat)} {x4 x5 x6:Option D} {E:EndD},Bag bag->1<=k->ps.length<=50->(∀ (bag':D) (q:Nat),Bag bag'->q<k->E.nx [some bag',some (.int n),some (.lst true ((ps++[(q,k)]).map pcD)),some (.int (k:Int)),x4,x5,x6])->XA [some bag,some (.int n),some (.lst true (ps.map pcD)),some (.int (k:Int)),x4,x5,x6] E)
  (hX:∀ {bag:D} {ps:List (Nat×Nat)} {x3 x4 x5 x6:Option D} {E:EndD},Bag bag->1<n->ps.length<=50->(∀ (bag':D) (q w:Nat) (x5:Option D),Bag bag'->q<n->w<n->q≠w->E.nx [some bag',some (.int n),some (.lst true ((ps++[(q,w)]).map pcD)),x3,x4,x5,x6])->XB [some bag,some (.int n),some (.lst true (ps.map pcD)),x3,x4,x5,x6] E)
  {Q:D->Option D->Prop}
  (hC:∀ {bag:D} {ps:List (Nat×Nat)} {x3 x4 x5 x6:Option D},Bag bag->ps.length<=6->(∀ p∈ps,p.1<n∧p.2<n∧p.1≠p.2)->(∀ r,1<=r->r<n -> ∃ p∈ps,p.1<r∧p.2=r)->XC [some bag,some (.int n),some (.lst true (ps.map pcD)),x3,x4,x5,x6] { nx:=fun ρ => Q .non (slot ρ 0),rt:=fun d ρ => Q d (slot ρ 0) })
  (hB:Bag bag) (hn1:1<=n) (hn4:n<=4):fnS 2 5 true
 (aC (bh 2 (eE []))
 (aC (iB (nj (.val (sC (.int 1))) (.nam 1)) (gN 3) XA)
 (aC (iB (di (.val (sDo oR [.val (aD 2 ao 0 [.val (sDo pX [.val (sC (.int 8)),.nam 1])]),.val (sDo uo [.val (sDo dGt [.nam 1,.val (sC (.int 1))])])]))) (gN 4) XB) XC))) [bag,.int n] Q:=by
 have p62:(2:Int) ^ 62=4611686018427387904:=by decide
 have e1:((n:Int) - 1).toNat=n - 1:=by omega
 dsimp? only
 rw [e1]
 refine aR ⟨by omega,by omega,by omega,by omega,by omega⟩ ?_
 (try dsimp? only)
 refine jj (fun k ρ => ∃ (bag:D) (ps:List (Nat×Nat)) (x3:Option D),ρ = [some bag,some (.int n),some (.lst true (ps.map pcD)),x3,none,none,none]∧Bag bag∧ps.length=k∧(∀ p∈ps,p.1<n∧p.2<n∧p.1≠p.2) ∧ ∀ r,1<=r->r<1+k -> ∃ p∈ps,p.1<r∧p.2=r) 0 ⟨bag,[],_,rfl,hB,rfl,fun l h=>by simp at h,fun p h1 h2=>by omega⟩ ?_ ?_
 ·rintro k d ρ hd ⟨bag,ps,x3,rfl,hB,hl,ho,ht⟩ P hP
  obtain ⟨hk,rfl⟩:=mF hd
  rw [Nat.zero_add] at hl ht
  have ec:(1:Int)+(k:Int)=((1+k:Nat):Int):=by omega
  rw [ec]
  (try dsimp? only)
  refine hA hB (by omega) (by omega) fun bag' q hB' hq=>hP _ ⟨bag',ps++[(q,1+k)],_,rfl,hB',by simp [hl],fun p hp=>?_,fun r h1 h2=>?_⟩
  ·rcases List.mem_append.mp hp with z | z
   ·exact ho p z
   ·rw [List.mem_singleton.mp z];exact ⟨by show q<n;omega,by show 1+k<n;omega,by show q≠1+k;omega⟩
  ·by_cases e:r=1+k
   ·exact ⟨(q,1+k),by simp,by show q<r;omega,e.symm⟩
   ·obtain ⟨p,hp,z⟩:=ht r h1 (by omega)
    exact ⟨p,List.mem_append.mpr (.inl hp),z⟩
 rintro ρ ⟨bag2,ps,x3,rfl,hB2,hl,ho,ht⟩
 rw [tK,Nat.zero_add] at hl ht
 dsimp? only
 refine aV hB2 (by omega) fun bag3 r hB3 hr=>?_
 have cb1:my (r:Int) (if decide ((1:Int)<(n:Int))=true then 1 else 0)=true:=cb (m:=5) (n:=5) (qN (m:=32) (by omega) (by decide)) (qN (m:=32) (by split <;> decide) (by decide)) (by decide)
 obtain ⟨u,eu,hu,hnu⟩:∃ u:Nat,(r:Int)*(if decide ((1:Int)<(n:Int))=true then 1 else 0)=(u:Int)∧u<=7 - n∧(1<n∨u=0):=by
  by_cases c:1<n
  ·exact ⟨r,by rw [decide_eq_true (by omega)];simp,by omega,.inl c⟩
  ·exact ⟨0,by rw [decide_eq_false (by omega)];simp,by omega,.inr rfl⟩
 have e2:(u:Int).toNat=u:=by omega
 dsimp? only [hB3.clean,cb1,eu]
 rw [e2]
 refine aR ⟨by omega,by omega,by omega⟩ ?_
 (try dsimp? only)
 refine jj (fun k ρ => ∃ (bag:D) (ps:List (Nat×Nat)) (x3 x4 x5 x6:Option D),ρ = [some bag,some (.int n),some (.lst true (ps.map pcD)),x3,x4,x5,x6]∧Bag bag∧ps.length=n - 1+k∧(∀ p∈ps,p.1<n∧p.2<n∧p.1≠p.2) ∧ ∀ r,1<=r->r<n -> ∃ p∈ps,p.1<r∧p.2=r) 0 ⟨bag3,ps,_,_,_,_,rfl,hB3,hl,ho,fun r h1 h2=>ht r h1 (by omega)⟩ ?_ ?_
 ·rintro k d ρ hd ⟨bag,ps,x3,x4,x5,x6,rfl,hB,hl,ho,ht⟩ P hP
  obtain ⟨hk,rfl⟩:=mF hd
  rw [Nat.zero_add] at hl
  (try dsimp? only)
  refine hX hB (by omega) (by omega) fun bag' q w x5 hB' hq hw hqw=>hP _ ⟨bag',ps++[(q,w)],_,_,_,_,rfl,hB',by simp [hl];omega,fun p hp=>?_,fun r h1 h2=>?_⟩
  ·rcases List.mem_append.mp hp with z | z
   ·exact ho p z
   ·rw [List.mem_singleton.mp z];exact ⟨hq,hw,hqw⟩
  ·obtain ⟨p,hp,z⟩:=ht r h1 h2
   exact ⟨p,List.mem_append.mpr (.inl hp),z⟩
 rintro ρ ⟨bag4,ps,x3,x4,x5,x6,rfl,hB4,hl,ho,ht⟩
 rw [tK,Nat.zero_add] at hl
 (try dsimp? only)
 exact hC hB4 (by omega) ho ht
theorem yW {bag:D} {n:Nat} (hB:Bag bag) (hn1:1<=n) (hn4:n<=4) {Q:D->Option D->Prop} (h:∀ (bag':D) (ls:List Ln),Bag bag'->Good n ls->Q (jk n ls) (some bag')):eY [bag,.int n] Q:=by
 rw [Uw]
 exact MJ (fun h1 h2 h3 h4=>Rj h1 h2 h3 h4) (fun h1 h2 h3 h4=>Rk h1 h2 h3 h4) (fun h1 h2 h3 h4=>Rm h1 hn1 hn4 h2 h3 h4 h) hB hn1 hn4
end Z
namespace Z
open PySem PySem.StrLaws PySem.Builtin PySem.Builtin.Str
theorem wJ (s sub:Str) (hi limit:Nat) (h1:sub.length=1):∀ (n lo:Nat) (st:Array Nat×Nat),st.2<=lo->st.1.size+n<=limit ->
  (∀ i∈st.1.toList,i∈(forIn (List.range' lo n) st (occBody s sub hi limit)).run.1.toList) ∧ ∀ i,lo<=i->i<lo+n->i+1<=hi->subAt s sub i=true->i∈(forIn (List.range' lo n) st (occBody s sub hi limit)).run.1.toList
 | 0,lo,st,_,_=>⟨fun i h=>h,fun i a b=>by omega⟩
 | n+1,lo,st,hf,hl=>by
  rw [List.range'_succ,List.forIn_cons]
  unfold occBody
  by_cases c:((st.fst.size<limit∧st.snd<=lo)∧lo+sub.length<=hi)∧subAt s sub lo=true
  ·rw [if_pos c]
   have ih:=wJ s sub hi limit h1 n (lo+1) (st.1.push lo,lo+sub.length) (by show lo+sub.length<=lo+1;omega) (by show (st.1.push lo).size+n<=limit;rw [Array.size_push];omega)
   have hin:lo∈(st.1.push lo).toList:=by rw [Array.toList_push];simp
   refine ⟨fun i h=>ih.1 i (by show i∈(st.1.push lo).toList;rw [Array.toList_push];exact List.mem_append_left _ h),fun i a b e f=>?_⟩
   by_cases z:i=lo
   ·rw [z];exact ih.1 lo hin
   ·exact ih.2 i (by omega) (by omega) e f
  ·rw [if_neg c]
   have ih:=wJ s sub hi limit h1 n (lo+1) (st.1,st.2) (by show st.2<=lo+1;omega) (by show st.1.size+n<=limit;omega)
   refine ⟨fun i h=>ih.1 i h,fun i a b e f=>?_⟩
   by_cases z:i=lo
   ·exact absurd ⟨⟨⟨by omega,hf⟩,by rw [h1];omega⟩,by rw [← z];exact f⟩ c
   ·exact ih.2 i (by omega) (by omega) e f
noncomputable abbrev sg1 (c:Nat):Str:=⟨#[c]⟩
theorem Dg {x:Str} {c i:Nat} (h:x.cps.toList[i]? = some c):i∈occurrences x (sg1 c) 0 x.length (x.length+1):=by
 obtain ⟨h1,h2⟩:=(subAt_one x c i).mpr h
 have h3:i+1<=x.length:=h1
 rw [occ_eq]
 exact (wJ x (sg1 c) x.length (x.length+1) rfl (x.length+1 - 0) 0 (#[],0) (Nat.le_refl _) (by show 0+_<=_;omega)).2 i (Nat.zero_le _) (by omega) h3 h2
theorem yl {x y:Str} {hi:Nat}:∀ {cuts:List Nat} {a f:Nat},ChainTo x y hi a cuts f -> ∀ i∈cuts,a<=i
 | [],a,f,_,i,h=>by simp at h
 | c :: r,a,f,h,i,hm=>by
  rcases List.mem_cons.mp hm with z | z
  ·rw [z];exact h.1
  ·have:=yl h.2.2 i z
   have:=h.1
   omega
theorem zG {x:Str} {c:Nat}:∀ {cuts:List Nat} {a f:Nat},ChainTo x (sg1 c) x.length a cuts f->(∀ i,a<=i->x.cps.toList[i]? = some c->i∈cuts) -> ∀ p∈partsFrom x 1 a cuts,c ∉ p.cps.toList
 | [],a,f,_,hc,p,hp=>by
  rw [List.mem_singleton.mp hp]
  intro hm
  obtain ⟨j,hj⟩:=List.mem_iff_getElem?.mp hm
  unfold strSub at hj
  rw [Array.toList_extract,List.extract_eq_drop_take,List.getElem?_take] at hj
  split at hj
  ·rw [List.getElem?_drop] at hj
   exact absurd (hc (a+j) (by omega) hj) (by simp)
  ·cases hj
 | k :: r,a,f,h,hc,p,hp=>by
  rcases List.mem_cons.mp hp with rfl | hp
  ·intro hm
   obtain ⟨j,hj⟩:=List.mem_iff_getElem?.mp hm
   unfold strSub at hj
   rw [Array.toList_extract,List.extract_eq_drop_take,List.getElem?_take] at hj
   split at hj
   ·rename_i hlt
    rw [List.getElem?_drop] at hj
    rcases List.mem_cons.mp (hc (a+j) (by omega) hj) with z | z
    ·omega
    ·have:=yl h.2.2 _ z
     have e:(sg1 c).length=1:=rfl
     omega
   ·cases hj
  ·refine zG (f:=f) h.2.2 (fun i hi hx=>?_) p hp
   have e:(sg1 c).length=1:=rfl
   rcases List.mem_cons.mp (hc i (by have:=h.1;omega) hx) with z | z
   ·omega
   ·exact z
theorem JN {x:Str} {c:Nat} (hk:strKind (sg1 c)<=strKind x):∀ p∈Txt.split x (sg1 c),c ∉ p.cps.toList:=by
 obtain ⟨f,hf⟩:=occ_chain x (sg1 c) (x.length+1)
 have all:=fun i (_:0<=i) (h:x.cps.toList[i]? = some c)=>Dg h
 have whole:occurrences x (sg1 c) 0 x.length (x.length+1)=[] -> ∀ p∈[x],c ∉ p.cps.toList:=fun e p hp hm=>by
  rw [List.mem_singleton.mp hp] at hm
  obtain ⟨j,hj⟩:=List.mem_iff_getElem?.mp hm
  have:=Dg hj
  rw [e] at this
  simp at this
 intro p hp
 unfold Txt.split at hp
 split at hp
 ·rename_i h
  rw [Bool.or_eq_true,decide_eq_true_eq,decide_eq_true_eq] at h
  rcases h with h | h
  ·have e:(sg1 c).length=1:=rfl
   have h0:x.length=0:=by omega
   rw [List.mem_singleton.mp hp]
   intro hm
   have:x.cps.toList.length=0:=by rw [Array.length_toList];exact h0
   rw [List.eq_nil_of_length_eq_zero this] at hm
   simp at hm
  ·omega
 ·split at hp
  ·rename_i h
   exact whole (List.isEmpty_iff.mp h) p hp
  ·rw [partsBetween_eq] at hp
   exact zG hf all p hp
noncomputable def jn (c:Nat):List (List Nat)->List Nat
 | []=>[]
 | [p]=>p
 | p :: q :: r=>p++c :: jn c (q :: r)
theorem sV (c:Nat):∀ ys:List Str,(Str.join (sg1 c) ys).cps.toList=jn c (ys.map fun y=>y.cps.toList)
 | []=>rfl
 | [y]=>rfl
 | y :: z :: r=>by
  have ih:=sV c (z :: r)
  show ((y.cps ++ #[c])++(Str.join (sg1 c) (z :: r)).cps).toList=_
  rw [Array.toList_append,Array.toList_append,ih]
  show y.cps.toList++[c]++_=y.cps.toList++c :: _
  rw [List.append_assoc]
  rfl
theorem Cg {c:Nat}:∀ {p p' s s':List Nat},c ∉ p->c ∉ p'->p++c :: s=p'++c :: s'->p=p'∧s=s'
 | [],[],s,s',_,_,e=>⟨rfl,by injection e⟩
 | [],b :: p',s,s',_,h2,e=>by
  injection e with e1 _
  exact absurd (by rw [e1];exact List.mem_cons_self) h2
 | a :: p,[],s,s',h1,_,e=>by
  injection e with e1 _
  exact absurd (by rw [← e1];exact List.mem_cons_self) h1
 | a :: p,b :: p',s,s',h1,h2,e=>by
  injection e with e1 e2
  obtain ⟨h3,h4⟩:=Cg (fun z=>h1 (List.mem_cons_of_mem _ z)) (fun z=>h2 (List.mem_cons_of_mem _ z)) e2
  exact ⟨by rw [e1,h3],h4⟩
theorem HJ {c:Nat}:∀ {ps qs:List (List Nat)},ps≠[]->qs≠[]->(∀ p∈ps,c ∉ p)->(∀ p∈qs,c ∉ p)->jn c ps=jn c qs->ps=qs
 | [],_,h,_,_,_,_=>absurd rfl h
 | _ :: _,[],_,h,_,_,_=>absurd rfl h
 | [p],[q],_,_,_,_,e=>by rw [show p=q from e]
 | [p],q :: q2 :: r,_,_,h1,h2,e=>by
  have:c∈p:=by rw [show p=q++c :: jn c (q2 :: r) from e];simp
  exact absurd this (h1 p List.mem_cons_self)
 | p :: p2 :: r,[q],_,_,h1,h2,e=>by
  have:c∈q:=by rw [← show p++c :: jn c (p2 :: r)=q from e];simp
  exact absurd this (h2 q List.mem_cons_self)
 | p :: p2 :: r,q :: q2 :: t,_,_,h1,h2,e=>by
  obtain ⟨e1,e2⟩:=Cg (h1 p List.mem_cons_self) (h2 q List.mem_cons_self) (show p++c :: jn c (p2 :: r)=q++c :: jn c (q2 :: t) from e)
  rw [e1,HJ (by simp) (by simp) (fun x hx=>h1 x (List.mem_cons_of_mem _ hx)) (fun x hx=>h2 x (List.mem_cons_of_mem _ hx)) e2]
theorem HS {c:Nat} (h:c<256) (x:Str):strKind (sg1 c)<=strKind x:=by
 have:strKind (sg1 c)=1:=by unfold Builtin.Str.strKind;rw [if_pos (by simp [h])]
 rw [this]
 unfold Builtin.Str.strKind
 split
 ·exact Nat.le_refl _
 ·split <;> decide
theorem JM (x y:Str):Txt.split x y≠[]:=by
 unfold Txt.split
 split
 ·simp
 ·split
  ·simp
  ·rw [partsBetween_eq]
   obtain ⟨p,r,e⟩:=partsFrom_ne x y.length 0 (occurrences x y 0 x.length (x.length+1))
   rw [e];simp
theorem BK {c:Nat} {ys:List Str} (hc:c<256) (hn:ys≠[]) (hy:∀ y∈ys,c ∉ y.cps.toList):Txt.split (Txt.join (sg1 c) ys) (sg1 c)=ys:=by
 have e:Txt.join (sg1 c) ys=Str.join (sg1 c) ys:=glued_eq_join _ _
 rw [e]
 have h1:=join_split (Str.join (sg1 c) ys) (sg1 c)
 have h2:=congrArg (fun s:Str=>s.cps.toList) h1
 simp only [sV] at h2
 have no:=JN (x:=Str.join (sg1 c) ys) (c:=c) (HS hc _)
 have ne:=JM (Str.join (sg1 c) ys) (sg1 c)
 generalize Txt.split (Str.join (sg1 c) ys) (sg1 c)=zs at *
 have h3:=HJ (c:=c) (by simpa using ne) (by simpa using hn) (fun p hp=>by
  obtain ⟨z,hz,rfl⟩:=List.mem_map.mp hp
  exact no z hz) (fun p hp=>by
  obtain ⟨z,hz,rfl⟩:=List.mem_map.mp hp
  exact hy z hz) h2
 have inj:∀ {as bs:List Str},as.map (fun y=>y.cps.toList)=bs.map (fun y=>y.cps.toList)->as=bs:=by
  intro as
  induction as with
  | nil=>intro bs h;cases bs with
   | nil=>rfl
   | cons b bs=>cases h
  | cons a as ih=>
   intro bs h
   cases bs with
   | nil=>cases h
   | cons b bs=>
    rw [List.map_cons,List.map_cons] at h
    injection h with h1 h2
    have:a=b:=by
     obtain ⟨x⟩:=a
     obtain ⟨y⟩:=b
     exact congrArg Str.mk (Array.toList_inj.mp h1)
    rw [this,ih h2]
 exact inj h3
end Z
namespace L2
open PySem PySem.Spec PyProof.Rows
theorem Qt (ρ : En) (QI:List D->En->Prop) (s:aZ):Ly s ρ QI=s ρ fun d ρ'=>aJ d.strO fun x=>dG (x.length<=sizeLine) (QI ((sgn x).map D.str) ρ'):=by
 simp only [Ly,aJ,dG,tY]
theorem Cq (ρ : En) (Q:D->En->Prop) (s:aZ):zQ s ρ Q=s ρ fun d ρ'=>aJ d.intO fun i=>dG (i.natAbs.log2<1920) (Q (.str (toString i)) ρ'):=by
 simp only [zQ,aJ,dG,jL]
theorem Hi (ρ : En) (Q:D->En->Prop) (s1 s2:aZ):tM s1 s2 ρ Q=s1 ρ fun d ρ1=>aJ d.strO fun a=>dG (a.length<=sizeLine) (s2 ρ1 fun e ρ2=>aJ e.strO fun b=>dG ((a++b).length<=sizeLine) (Q (.str (a++b)) ρ2)):=by
 simp only [tM,aJ,dG,tY]
theorem Hj (ρ : En) (Q:D->En->Prop) (i:Nat) (o:Opd):xG i o ρ Q=aJ (slot ρ i) fun d=>aJ d.strO fun sep=>sDo (cL sep) [o] ρ Q:=by
 unfold xG
 apply propext
 simp only [aJ,cF,tY]
 constructor
 ·rintro ⟨sep,h1,h2⟩
  exact ⟨_,h1,sep,rfl,h2⟩
 ·rintro ⟨d,h1,sep,rfl,h2⟩
  exact ⟨sep,h1,h2⟩
end L2
namespace Z
open PySem PySem.StrLaws L2
noncomputable def nT (n:Nat):Str:=Str.ofString (toString (n:Int))
noncomputable def dgs (n:Nat):List Nat:=(Nat.toDigits 10 n).map Char.toNat
theorem Bk (n:Nat):(nT n).cps.toList=dgs n:=PySem.W.KIN.signs_num n
theorem vZ:∀ n,n<1000->(1<=(dgs n).length∧(dgs n).length<=3∧((dgs n).all fun c=>decide (48<=c)&&decide (c<=57))=true∧(dgs n=[48]∨(dgs n).head? ≠ some 48)):=by
 decide +kernel
theorem mD {n:Nat} (h:n<1000):1<=(nT n).length∧(nT n).length<=3:=by
 have e:(nT n).length=(dgs n).length:=by rw [← Bk,Array.length_toList];rfl
 rw [e]
 exact ⟨(vZ n h).1,(vZ n h).2.1⟩
theorem tB {n c:Nat} (h:n<1000) (hc:c∈(nT n).cps.toList):48<=c∧c<=57:=by
 rw [Bk] at hc
 have:=List.all_eq_true.mp (vZ n h).2.2.1 c hc
 simpa using this
theorem BP {x:Str} (h:∀ c∈x.cps.toList,c<1000):PyData.strOk x=true:=by
 unfold PyData.strOk
 rw [← Array.all_toList]
 exact List.all_eq_true.mpr fun c hc=>decide_eq_true (by have:=h c hc;omega)
theorem rA (a b:Str):(PyData.str a).eqv (.str b)=decide (a=b):=by
 by_cases h:a=b
 ·subst h;simp [PyData.eqv]
 ·simp [PyData.eqv,h]
theorem lV {a:Str} (ha:PyData.strOk a=true):fL (.str a)=true:=by
 unfold fL SeqAt.shaped
 rw [D.dat]
 simp [PyData.canLay0,PyData.depth,ha]
theorem qW {a b:Str} (ha:PyData.strOk a=true) (hb:PyData.strOk b=true):dEq [.str a,.str b]=some (.bl (decide (a=b))):=by
 show (if (fL (.str a)&&fL (.str b))=true then some (D.bl (PyData.eqv (D.dat (.str a)) (D.dat (.str b)))) else none)=_
 rw [if_pos (by rw [lV ha,lV hb];rfl),D.dat,D.dat,rA]
theorem Ck {a b:Str} (ha:PyData.strOk a=true) (hb:PyData.strOk b=true):dNe [.str a,.str b]=some (.bl (!decide (a=b))):=by
 show (if (fL (.str a)&&fL (.str b))=true then some (D.bl (!PyData.eqv (D.dat (.str a)) (D.dat (.str b)))) else none)=_
 rw [if_pos (by rw [lV ha,lV hb];rfl),D.dat,D.dat,rA]
theorem JK {n:Nat} (h:n<1000):PyData.strOk (nT n)=true:=BP fun c hc=>by have:=tB h hc;omega
theorem LC {c:Nat} (h:48<=c∧c<=57):KQ [.str ⟨#[c]⟩,.str "0123456789"]=some (.bl true):=by
 show some (D.bl (!(Builtin.Str.occurrences ("0123456789" : Str) ⟨#[c]⟩ 0 ("0123456789" : Str).length 1).isEmpty))=_
 rw [found_one]
 have hm:c∈("0123456789" : Str).cps.toList:=by
  have e:("0123456789" : Str).cps.toList=[48,49,50,51,52,53,54,55,56,57]:=by decide +kernel
  rw [e]
  simp only [List.mem_cons,List.not_mem_nil,or_false]
  omega
 rw [decide_eq_true hm]
theorem wA {n:Nat} (h:n<1000) {Q:D->Option D->Prop} (q:Q (.bl true) none):gU [.str (nT n)] Q:=by
 obtain ⟨l1,l2⟩:=mD h
 have hne:nT n≠("" : Str):=fun e=>by rw [e] at l1;exact absurd l1 (by decide)
 have e1:dEq [.str (nT n),.str ""]=some (.bl false):=by rw [qW (JK h) (by decide +kernel),decide_eq_false hne]
 have e2:jY [.str (nT n)]=some (.int (nT n).length):=by show (if _ then _ else _)=_;rw [if_pos (by rw [sizeLine_eq];omega)]
 have e3:decide ((40:Int)<((nT n).length:Int))=false:=decide_eq_false (by omega)
 dsimp? only [gU,↓Qt,D.strO,e1,e2,e3]
 refine aR (by omega) ?_
 (try dsimp? only)
 rw [show (sgn (nT n)).map D.str=(nT n).cps.toList.map fun c=>D.str ⟨#[c]⟩ by unfold sgn;rw [List.map_map];rfl]
 refine bK (fun c:Nat=>D.str ⟨#[c]⟩) (fun _=>D.bl true) (fun ρ => ∃ x,ρ = [x]) ⟨_,rfl⟩ ?_ ?_
 ·rintro c hc ρ ⟨x,rfl⟩ P hP
  dsimp? only [LC (tB h hc)]
  exact hP _ ⟨_,rfl⟩
 rintro ρ ⟨x,rfl⟩
 have ea:oK [.lst true ((nT n).cps.toList.map fun _=>D.bl true)]=some (.bl true):=by
  rw [oM true (fun _=>true)]
  simp
 have z0:("0" : Str).cps.toList=[48]:=by decide +kernel
 have zok:PyData.strOk ("0" : Str)=true:=by decide +kernel
 by_cases hz:nT n=("0" : Str)
 ·have e4:dEq [.str (nT n),.str "0"]=some (.bl true):=by rw [qW (JK h) zok,decide_eq_true hz]
  dsimp? only [ea,e4]
  exact q
 ·have e4:dEq [.str (nT n),.str "0"]=some (.bl false):=by rw [qW (JK h) zok,decide_eq_false hz]
  obtain ⟨c,l,hc⟩:∃ c l,(nT n).cps.toList=c :: l:=by
   cases hq:(nT n).cps.toList with
   | nil=>rw [show (nT n).length=(nT n).cps.toList.length from (Array.length_toList ..).symm,hq] at l1;exact absurd l1 (by decide)
   | cons c l=>exact ⟨c,l,rfl⟩
  have hcr:=tB h (show c∈(nT n).cps.toList by rw [hc];exact List.mem_cons_self)
  have c48:c≠48:=fun e=>by
   have hd:=Bk n
   rw [hc] at hd
   rcases (vZ n h).2.2.2 with z | z
   ·rw [z] at hd
    refine hz ?_
    have:(nT n).cps=("0" : Str).cps:=Array.toList_inj.mp (by rw [hc,hd,z0])
    generalize nT n=X at this
    obtain ⟨X⟩:=X
    exact congrArg Str.mk this
   ·rw [← hd] at z
    exact z (by rw [e];rfl)
  have i0:ixF (.str (nT n)) 0=some (.str ⟨#[c]⟩,none):=by
   have hd:dIx [.str (nT n),.int 0]=some (.str ⟨#[c]⟩):=by
    show (if (nT n).length<=sizeLine then (atI (nT n).cps.toList 0).map _ else none)=_
    rw [if_pos (by rw [sizeLine_eq];omega),hc,show atI (c :: l) 0=some c by unfold atI;rw [List.length_cons,ixN0];rfl]
    rfl
   unfold ixF
   rw [hd]
  have ne0:(⟨#[c]⟩:Str)≠("0" : Str):=fun e=>by
   have:=congrArg (fun s:Str=>s.cps.toList) e
   simp only [z0] at this
   exact c48 (by simpa using this)
  have e5:dNe [.str ⟨#[c]⟩,.str "0"]=some (.bl true):=by
   rw [Ck (BP fun d hd=>by
    have:d=c:=by simpa using hd
    omega) zok,decide_eq_false ne0]
   rfl
  dsimp? only [ea,e4,i0,e5]
  exact q
noncomputable def wds (ns:List Nat):List D:=ns.map fun n=>.str (nT n)
noncomputable def its (ns:List Nat):List D:=ns.map fun n:Nat=>.int (n:Int)
theorem pJ (ns:List Nat):D.shs (wds ns)=true:=aP (fun n=>D.str (nT n)) (fun _=>rfl) ns
theorem iy (ns:List Nat):D.fzs (wds ns)=wds ns:=jA (fun n=>D.str (nT n)) (fun _=>rfl) ns
theorem cj (ns:List Nat):D.shs (its ns)=true:=aP (fun n:Nat=>D.int (n:Int)) (fun _=>rfl) ns
theorem jz (ns:List Nat):D.fzs (its ns)=its ns:=jA (fun n:Nat=>D.int (n:Int)) (fun _=>rfl) ns
theorem KR {n:Nat} (h:n<1000):yx [.str (nT n)]=some (.int (n:Int)):=by
 have hl:=mD h
 show (if (nT n).length<=640 then (PySem.intText? (nT n)).map D.int else none)=_
 rw [if_pos (by omega),show PySem.intText? (nT n)=some (n:Int) from PySem.W.KIN.num_reads (by omega) (by omega)]
 rfl
theorem oU {n:Nat} (h:n<1000):gP [.int (n:Int)]=some (.str (nT n)):=by
 show (if (n:Int).natAbs.log2<1920 then _ else _)=_
 rw [if_pos]
 ·rfl
 ·rw [Int.natAbs_natCast]
  by_cases z:n=0
  ·subst z;decide
  ·exact (Nat.log2_lt z).mpr (Nat.lt_of_lt_of_le h (by decide +kernel))
theorem uy {ns:List Nat} {o:Bool} (hn:∀ n∈ns,n<1000) (hl:ns.length<=100) {Q:D->Option D->Prop} (q:Q (.lst true (its ns)) none):gf [.lst o (wds ns)] Q:=by
 have len:(wds ns).length=ns.length:=by unfold wds;rw [List.length_map]
 have loop:∀ {Q:List D->En->Prop},(∀ x,Q (ns.map fun _=>D.bl true) [x])->iK (gN 0) cI (aM 1 gU [.nam 0]) (wds ns) [none] Q:=by
  intro Q hQ
  refine bK (fun n=>D.str (nT n)) (fun _=>D.bl true) (fun ρ => ∃ x,ρ = [x]) ⟨_,rfl⟩ ?_ ?_
  ·rintro n hm ρ ⟨x,rfl⟩ P hP
   dsimp? only
   refine wA (hn n hm) ?_
   dsimp? only
   exact hP _ ⟨_,rfl⟩
  ·rintro ρ ⟨x,rfl⟩
   exact hQ _
 have loop2:∀ {Q:List D->En->Prop},(∀ x,Q (its ns) [x])->iK (gN 0) cI (sDo yx [.nam 0]) (wds ns) [none] Q:=by
  intro Q hQ
  refine bK (fun n=>D.str (nT n)) (fun n:Nat=>D.int (n:Int)) (fun ρ => ∃ x,ρ = [x]) ⟨_,rfl⟩ ?_ ?_
  ·rintro n hm ρ ⟨x,rfl⟩ P hP
   dsimp? only [KR (hn n hm)]
   exact hP _ ⟨_,rfl⟩
  ·rintro ρ ⟨x,rfl⟩
   exact hQ _
 have ea:oK [.lst true (ns.map fun _=>D.bl true)]=some (.bl true):=by
  rw [oM true (fun _=>true)]
  simp
 cases o with
 | false=>
  dsimp? only [gf,pJ,iy,len]
  refine aR (by omega) ?_
  (try dsimp? only)
  refine loop fun x=>?_
  dsimp? only [ea,pJ,iy,len]
  refine aR (by omega) ?_
  (try dsimp? only)
  refine loop2 fun x=>?_
  exact q
 | true=>
  dsimp? only [gf,pJ,iy,len]
  refine aR (by omega) ?_
  (try dsimp? only)
  refine loop fun x=>?_
  dsimp? only [ea,pJ,iy,len]
  refine aR (by omega) ?_
  (try dsimp? only)
  refine loop2 fun x=>?_
  exact q
theorem dF {ns:List Nat} {m:Nat} {o:Bool} (hn:∀ n∈ns,n<1000) (hl:ns.length<=100) (hm:ns.length=m) {Q:D->Option D->Prop} (q:Q (.tup (its ns)) none):bw [.lst o (wds ns),.int (m:Int)] Q:=by
 have len:(its ns).length=ns.length:=by unfold its;rw [List.length_map]
 have ecl:D.cleans (its ns)=true:=gD (fun n:Nat=>D.int (n:Int)) (fun _=>rfl) ns
 dsimp? only [bw,iy]
 refine uy hn hl ?_
 rw [← hm]
 dsimp? only [ecl,len,cj,Bool.or_true]
 rw [ecl]
 refine qb (fun hc=>absurd hc (by simp)) fun _=>?_
 dsimp? only [cj,Bool.or_true]
 exact q
theorem zN {n:Nat} {o:Bool} (h:n<1000) {Q:D->Option D->Prop} (q:Q (.int (n:Int)) none):gG [.lst o (wds [n])] Q:=by
 dsimp? only [gG,↓Um,iy]
 refine dF (ns:=[n]) (m:=1) (by simpa using h) (by simp) rfl ?_
 have ix:dIx [.tup (its [n]),.int 0]=some (.int (n:Int)):=rfl
 dsimp? only [jz,ix]
 exact q
theorem xq {ns:List Nat} {o:Bool} (hn:∀ n∈ns,n<1000) (hl:ns.length=4) {Q:D->Option D->Prop} (q:Q (.tup (its ns)) none):fU [.lst o (wds ns)] Q:=by
 dsimp? only [fU,iy]
 refine dF (m:=4) hn (by omega) hl ?_
 (try dsimp? only)
 exact q
theorem uJ {ns:List Nat} {o:Bool} (hn:∀ n∈ns,n<1000) (hl:ns.length=5) {Q:D->Option D->Prop} (q:Q (.tup (its ns)) none):eZ [.lst o (wds ns)] Q:=by
 dsimp? only [eZ,iy]
 refine dF (m:=5) hn (by omega) hl ?_
 (try dsimp? only)
 exact q
theorem lw {ns:List Nat} {sep:Str} (hn:∀ n∈ns,n<1000) (hl:ns.length<=100) (hj:JoinOk sep (ns.map nT)=true) {Q:D->Option D->Prop} (q:Q (.str (Txt.join sep (ns.map nT))) none):dw [.tup (its ns),.str sep] Q:=by
 have len:(its ns).length=ns.length:=by unfold its;rw [List.length_map]
 have st:D.strs (wds ns)=some (ns.map nT):=by
  clear hn hl hj q len
  induction ns with
  | nil=>rfl
  | cons n ns ih=>show (D.strs (wds ns)).map _=_;rw [ih];rfl
 have ej:cL sep [.lst true (wds ns)]=some (.str (Txt.join sep (ns.map nT))):=by
  show (D.strs (wds ns)).bind _=_
  rw [st]
  show (if JoinOk sep (ns.map nT)=true then _ else none)=_
  rw [if_pos hj]
 dsimp? only [dw,↓Hj,D.strO,cj,jz,len]
 refine aR (by omega) ?_
 (try dsimp? only)
 refine bK (fun n:Nat=>D.int (n:Int)) (fun n=>D.str (nT n)) (fun ρ => ∃ x,ρ = [x]) ⟨_,rfl⟩ ?_ ?_
 ·rintro n hm ρ ⟨x,rfl⟩ P hP
  dsimp? only [oU (hn n hm)]
  exact hP _ ⟨_,rfl⟩
 ·rintro ρ ⟨x,rfl⟩
  rw [show (ns.map fun n=>D.str (nT n))=wds ns from rfl]
  dsimp? only [ej]
  exact q
theorem BR {A:Nat}:∀ ts:List Str,(∀ t∈ts,t.length<=A)->(ts.map (·.length)).sum<=ts.length*A
 | [],_=>by simp
 | t :: ts,h=>by
  have h1:=h t List.mem_cons_self
  have h2:=BR ts fun t' h'=>h t' (List.mem_cons_of_mem _ h')
  rw [List.map_cons,List.sum_cons,List.length_cons,Nat.add_mul,Nat.one_mul]
  omega
theorem dh {sep:Str} {ts:List Str} {A:Nat} (h:∀ t∈ts,t.length<=A) (hs:sep.length=1) (hb:ts.length*(A+1)<=1000000):JoinOk sep ts=true:=by
 refine PyProof.Rows.joinOk_of ?_
 have:=BR ts h
 rw [hs,Nat.mul_one]
 rw [Nat.mul_add,Nat.mul_one] at hb
 omega
theorem nu {sep:Str} {ts:List Str} {A:Nat} (h:∀ t∈ts,t.length<=A) (hs:sep.length=1):(Txt.join sep ts).length<=ts.length*(A+1):=by
 have e:Txt.join sep ts=Str.join sep ts:=glued_eq_join _ _
 have h1:=join_length_le sep ts
 have:=BR ts h
 rw [e,Nat.mul_add,Nat.mul_one]
 rw [hs,Nat.mul_one] at h1
 omega
theorem yq:(":" : Str)=sg1 58:=by decide +kernel
theorem tX:(" " : Str)=sg1 32:=by decide +kernel
theorem CT:("\n" : Str)=sg1 10:=by decide +kernel
noncomputable def wT (ns:List Nat):Str:=Txt.join ":" (ns.map nT)
theorem gn {ns:List Nat} (hn:∀ n∈ns,n<1000):∀ t∈ns.map nT,t.length<=3:=fun t ht=>by
 obtain ⟨n,hm,rfl⟩:=List.mem_map.mp ht
 exact (mD (hn n hm)).2
theorem pW {c:Nat} {sep:Str} {ts:List Str} {A:Nat} (hs:sep=sg1 c) (hc:c<256) (hne:ts≠[]) (h:∀ t∈ts,t.length<=A) (hb:ts.length*(A+1)<=1000000) (hno:∀ t∈ts,c ∉ t.cps.toList):fM sep [.str (Txt.join sep ts)]=some (.lst true (ts.map D.str)):=by
 subst hs
 have e:=BK hc hne hno
 have l1:=nu (sep:=sg1 c) h rfl
 have l2:ts.length<=ts.length*(A+1):=Nat.le_mul_of_pos_right _ (by omega)
 show (if (Txt.join (sg1 c) ts).length+2<=sizeLine∧(Txt.split (Txt.join (sg1 c) ts) (sg1 c)).length<=sizeLine then some (D.lst true ((Txt.split (Txt.join (sg1 c) ts) (sg1 c)).map D.str)) else none)=_
 rw [e,if_pos ⟨by rw [sizeLine_eq];omega,by rw [sizeLine_eq];omega⟩]
theorem Eb {ns:List Nat} (hn:∀ n∈ns,n<1000) (hne:ns≠[]) (hl:ns.length<=100):fM ":" [.str (wT ns)]=some (.lst true (wds ns)):=by
 have:=pW (c:=58) (sep:= ":") (ts:=ns.map nT) (A:=3) yq (by decide) (by simpa using hne) (gn hn) (by rw [List.length_map];omega) fun t ht=>by
  obtain ⟨n,hm,rfl⟩:=List.mem_map.mp ht
  intro hc
  have:=tB (hn n hm) hc
  omega
 rw [List.map_map] at this
 exact this
theorem xn {ws:List (List Nat)} {o:Bool} (hw:∀ w∈ws,w.length=3 ∧ ∀ n∈w,n<1000) (hl:ws.length<=100) {Q:D->Option D->Prop} (q:Q (.tup (ws.map fun w=>.tup (its w))) none):eU [.lst o (ws.map fun w=>.str (wT w))] Q:=by
 have sh:D.shs (ws.map fun w=>D.str (wT w))=true:=aP (fun w=>D.str (wT w)) (fun _=>rfl) ws
 have fz:D.fzs (ws.map fun w=>D.str (wT w))=ws.map fun w=>D.str (wT w):=jA (fun w=>D.str (wT w)) (fun _=>rfl) ws
 have sh2:D.shs (ws.map fun w=>D.tup (its w))=true:=aP (fun w=>D.tup (its w)) (fun w=>cj w) ws
 have loop:∀ {Q:List D->En->Prop},(∀ x,Q (ws.map fun w=>D.tup (its w)) [x])->iK (gN 0) cI (aM 2 bw [.val (sDo (fM ":") [.nam 0]),.val (sC (.int 3))]) (ws.map fun w=>D.str (wT w)) [none] Q:=by
  intro Q hQ
  refine bK (fun w=>D.str (wT w)) (fun w=>D.tup (its w)) (fun ρ => ∃ x,ρ = [x]) ⟨_,rfl⟩ ?_ ?_
  ·rintro w hm ρ ⟨x,rfl⟩ P hP
   obtain ⟨h3,hn⟩:=hw w hm
   dsimp? only [Eb hn (fun e=>by rw [e] at h3;cases h3) (by omega),iy]
   refine dF (m:=3) hn (by omega) h3 ?_
   dsimp? only
   exact hP _ ⟨_,rfl⟩
  ·rintro ρ ⟨x,rfl⟩
   exact hQ _
 cases o with
 | false=>
  dsimp? only [eU,sh,fz,List.length_map]
  refine aR (by omega) ?_
  (try dsimp? only)
  refine loop fun x=>?_
  dsimp? only [sh2]
  exact q
 | true=>
  dsimp? only [eU,sh,fz,List.length_map]
  refine aR (by omega) ?_
  (try dsimp? only)
  refine loop fun x=>?_
  dsimp? only [sh2]
  exact q
noncomputable def onT (b:Bool):Str:=if b=true then "on" else "off"
noncomputable def wrk (six:List Nat) (b:Bool) (ps:List (List Nat)):List D:=wds six++D.str (onT b) :: ps.map fun p=>D.str (wT p)
theorem DW (six:List Nat) (b:Bool) (ps:List (List Nat)):D.shs (wrk six b ps)=true:=by
 unfold wrk
 rw [D.shs_eq,List.all_append,List.all_cons,← D.shs_eq,pJ,← D.shs_eq,aP (fun p=>D.str (wT p)) (fun _=>rfl)]
 rfl
theorem xr {a b c d e f:Nat} {w:Bool} {ps:List (List Nat)} {o:Bool} (h6:∀ n∈[a,b,c,d,e,f],n<1000) (hp:∀ p∈ps,p.length=2 ∧ ∀ n∈p,n<1000) (h1:1<=ps.length) (hl:ps.length<=100) {Q:D->Option D->Prop}
  (q:Q (.tup [.int (a:Int),.int (b:Int),.int (c:Int),.tup (ps.map fun p=>.tup (its p)),.int (d:Int),.int (e:Int),.int (f:Int),.bl w]) none):fV [.lst false (wrk [a,b,c,d,e,f] w ps)] Q:=by
 have len:(wrk [a,b,c,d,e,f] w ps).length=7+ps.length:=by unfold wrk wds;simp;omega
 have e1:jY [.lst false (wrk [a,b,c,d,e,f] w ps)]=some (.int ((7+ps.length:Nat):Int)):=by rw [← len];rfl
 have e2:decide (((7+ps.length:Nat):Int)<8)=false:=decide_eq_false (by omega)
 have i6:ixF (.lst false (wrk [a,b,c,d,e,f] w ps)) 6=some (.str (onT w),none):=nq _ _ (mU (xs:=wrk [a,b,c,d,e,f] w ps) (j:=6) (v:=D.str (onT w)) rfl) rfl
 have n6:qX [.str (onT w),.tup [.str "on",.str "off"]]=some (.bl false):=by
  have hA:(PyData.eqv (.str "on") (.str (onT w))||PyData.eqv (.str "off") (.str (onT w)))=true:=by
   rw [rA,rA]
   cases w <;> decide +kernel
  show (if (D.pls [.str "on",.str "off"]&&PyData.canLayAll0 (D.dats [.str "on",.str "off"])&&(PyData.str (onT w)).canLay0)=true then some (D.bl (!(D.dats [.str "on",.str "off"]).any fun y=>PyData.eqv y (.str (onT w)))) else none)=_
  have hd:D.dats [.str "on",.str "off"]=[PyData.str "on",PyData.str "off"]:=by rw [D.dats,D.dats,D.dats,D.dat,D.dat]
  have hp:D.pls [.str "on",.str "off"]=true:=by rw [D.pls,D.pls,D.pls,D.pl,D.pl];rfl
  rw [hd,hp,if_pos (by cases w <;> decide +kernel)]
  show some (D.bl (!(PyData.eqv (.str "on") (.str (onT w))||(PyData.eqv (.str "off") (.str (onT w))||false))))=_
  rw [Bool.or_false,hA]
  rfl
 have q6:dEq [.str (onT w),.str "on"]=some (.bl w):=by
  rw [qW (by cases w <;> decide +kernel) (by decide +kernel),show decide (onT w=("on" : Str))=w by cases w <;> decide +kernel]
 have s6:dSl (.lst false (wrk [a,b,c,d,e,f] w ps)) none (some 6)=some (.lst true (wds [a,b,c,d,e,f])):=by
  show (if D.shs _=true then some (D.lst true (cutD _ none (some ((6:Nat):Int)))) else none)=_
  rw [if_pos (DW _ _ _),KN _ 6 (by rw [len];omega)]
  rfl
 have s7:dSl (.lst false (wrk [a,b,c,d,e,f] w ps)) (some 7) none=some (.lst true (ps.map fun p=>D.str (wT p))):=by
  show (if D.shs _=true then some (D.lst true (cutD _ (some ((7:Nat):Int)) none)) else none)=_
  rw [if_pos (DW _ _ _),uY _ 7 (by rw [len];omega)]
  rfl
 have sh:D.shs (ps.map fun p=>D.str (wT p))=true:=aP (fun p=>D.str (wT p)) (fun _=>rfl) ps
 have fz:D.fzs (ps.map fun p=>D.str (wT p))=ps.map fun p=>D.str (wT p):=jA (fun p=>D.str (wT p)) (fun _=>rfl) ps
 have sh2:D.shs (ps.map fun p=>D.tup (its p))=true:=aP (fun p=>D.tup (its p)) (fun p=>cj p) ps
 dsimp? only [fV,e1,e2,i6,n6,s6,iy]
 refine dF (m:=6) h6 (by simp) rfl ?_
 rw [show D.tup (its [a,b,c,d,e,f]) = .tup [.int (a:Int),.int (b:Int),.int (c:Int),.int (d:Int),.int (e:Int),.int (f:Int)] from rfl]
 dsimp? only [s7,sh,fz,List.length_map]
 refine aR (by omega) ?_
 (try dsimp? only)
 refine bK (fun p=>D.str (wT p)) (fun p=>D.tup (its p)) (fun ρ => ∃ x,ρ = [x]) ⟨_,rfl⟩ ?_ ?_
 ·rintro p hm ρ ⟨x,rfl⟩ P hP
  obtain ⟨h2,hn⟩:=hp p hm
  dsimp? only [Eb hn (fun e=>by rw [e] at h2;cases h2) (by omega),iy]
  refine dF (m:=2) hn (by omega) h2 ?_
  dsimp? only
  exact hP _ ⟨_,rfl⟩
 ·rintro ρ ⟨x,rfl⟩
  dsimp? only [sh2,i6,q6]
  exact q
theorem jP (a b c:Str):a++b++c=a++(b++c):=by
 obtain ⟨a⟩:=a
 obtain ⟨b⟩:=b
 obtain ⟨c⟩:=c
 show (⟨a++b++c⟩:Str)=⟨a++(b++c)⟩
 rw [Array.append_assoc]
theorem Kd (sep:Str) (ts:List Str):Txt.join sep ts=Str.join sep ts:=glued_eq_join _ _
theorem iz (sep x y:Str) (r:List Str):Txt.join sep (x :: y :: r)=x++sep++Txt.join sep (y :: r):=by
 rw [Kd,Kd];rfl
theorem join_one (sep x:Str):Txt.join sep [x]=x:=by rw [Kd];rfl
theorem vp (sep:Str):∀ (A B:List Str),A≠[]->Txt.join sep (Txt.join sep A :: B)=Txt.join sep (A++B)
 | [],_,h=>absurd rfl h
 | [a],B,_=>by rw [join_one];rfl
 | a :: b :: A,[],_=>by rw [join_one,List.append_nil]
 | a :: b :: A,c :: B,_=>by
  have ih:=vp sep (b :: A) (c :: B) (by simp)
  rw [iz,iz,List.cons_append,List.cons_append,iz,jP a sep,jP a,jP,jP a sep,← List.cons_append,← ih,iz]
  simp only [jP]
theorem qd (sep x:Str) (A:List Str) (h:A≠[]):Txt.join sep (x :: A)=x++sep++Txt.join sep A:=by
 cases A with
 | nil=>exact absurd rfl h
 | cons a A=>exact iz sep x a A
noncomputable def wkW (six:List Nat) (w:Bool) (ps:List (List Nat)):List Str:= "work" :: (six.map nT++onT w :: ps.map wT)
noncomputable def wkD (a b c d e f:Nat) (w:Bool) (ps:List (List Nat)):D:=.tup [.int (a:Int),.int (b:Int),.int (c:Int),.tup (ps.map fun p=>.tup (its p)),.int (d:Int),.int (e:Int),.int (f:Int),.bl w]
theorem strs_map {α : Type} (g : α -> Str):∀ xs:List α,D.strs (xs.map fun x=>D.str (g x))=some (xs.map g)
 | []=>rfl
 | x :: xs=>by show (D.strs (xs.map fun x=>D.str (g x))).map _=_;rw [strs_map g xs];rfl
theorem Gk (xs:List Str):D.strs (xs.map D.str)=some xs:=by have:=strs_map (fun x:Str=>x) xs;simpa using this
theorem jG {sep:Str} {o:Bool} {xs:List Str} (h:JoinOk sep xs=true):cL sep [.lst o (xs.map D.str)]=some (.str (Txt.join sep xs)):=by
 show (D.strs (xs.map D.str)).bind _=_
 rw [Gk]
 show (if JoinOk sep xs=true then _ else none)=_
 rw [if_pos h]
theorem vM {p:List Nat} {m:Nat} (hn:∀ n∈p,n<1000) (hl:p.length<=m):(wT p).length<=4*m:=by
 have:=nu (sep:= ":") (gn hn) (by decide +kernel)
 rw [List.length_map] at this
 unfold wT
 omega
noncomputable def Oe:aZ:=(sDo (cL " ") [.val (sDo bC [.val (sDo bC [.val (eE [.val (sC (.str "work"))]),.val (aL 9)]),.val (bN (cM (aL 4)) 1 [] (gN 0) (cI) (aM 2 dw [.nam 0,.val (sC (.str ":"))]))])])
theorem Td:fW=fnS 1 9 false
 (aC (mG (gT [gN 1,gN 2,gN 3,gN 4,gN 5,gN 6,gN 7,gN 8]) (aL 0))
 (aC (bh 9 (eE [.val (aM 2 dw [.val (gb [.val (aL 1),.val (aL 2),.val (aL 3),.val (aL 5),.val (aL 6),.val (aL 7)]),.val (sC (.str " "))]),.val (Gb (eQ (.nam 8)) (sC (.str "on")) (sC (.str "off")))]))
 (bR Oe))):=by unfold fW Oe;with_reducible rfl
theorem xT {a b c d e f:Nat} {w:Bool} {ps:List (List Nat)} (h6:∀ n∈[a,b,c,d,e,f],n<1000) (hp:∀ p∈ps,p.length=2 ∧ ∀ n∈p,n<1000) (hl:ps.length<=100) {Q:D->Option D->Prop}
  (q:Q (.str (Txt.join " " (wkW [a,b,c,d,e,f] w ps))) none):fW [wkD a b c d e f w ps] Q:=by
 have hJ:JoinOk " " ([a,b,c,d,e,f].map nT)=true:=dh (A:=3) (gn h6) (by decide +kernel) (by simp)
 have shp:D.shs (ps.map fun p=>D.tup (its p))=true:=aP (fun p=>D.tup (its p)) (fun p=>cj p) ps
 have fzp:D.fzs (ps.map fun p=>D.tup (its p))=ps.map fun p=>D.tup (its p):=D.shs_fz _ shp
 have shk:(wkD a b c d e f w ps).sh=true:=by unfold wkD;simp [D.sh,D.shs,shp]
 rw [Td]
 dsimp? only [shk]
 rw [show wkD a b c d e f w ps = .tup [.int (a:Int),.int (b:Int),.int (c:Int),.tup (ps.map fun p=>.tup (its p)),.int (d:Int),.int (e:Int),.int (f:Int),.bl w] from rfl]
 dsimp? only [shp]
 have S6:=Txt.join (" " : Str) ([a,b,c,d,e,f].map nT)
 refine lw (ns:=[a,b,c,d,e,f]) h6 (by simp) hJ ?_
 have hS:(Txt.join (" " : Str) ([a,b,c,d,e,f].map nT)).length<=24:=by
  have:=nu (sep:=(" " : Str)) (gn h6) (by decide +kernel)
  simpa using this
 have eW:Txt.join (" " : Str) ("work" :: Txt.join (" " : Str) ([a,b,c,d,e,f].map nT) :: onT w :: ps.map wT)=Txt.join " " (wkW [a,b,c,d,e,f] w ps):=by
  unfold wkW
  rw [iz,vp _ _ _ (by simp),qd (" " : Str) "work" _ (by simp)]
 generalize Txt.join (" " : Str) ([a,b,c,d,e,f].map nT)=S at hS eW
 have hX:∀ t∈(("work" : Str) :: S :: onT w :: ps.map wT),t.length<=24:=fun t ht=>by
  rcases List.mem_cons.mp ht with rfl | ht
  ·decide +kernel
  rcases List.mem_cons.mp ht with rfl | ht
  ·exact hS
  rcases List.mem_cons.mp ht with rfl | ht
  ·cases w <;> decide +kernel
  ·obtain ⟨p,hm,rfl⟩:=List.mem_map.mp ht
   have:=vM (hp p hm).2 (m:=2) (by rw [(hp p hm).1];exact Nat.le_refl _)
   omega
 have hJ2:JoinOk " " (("work" : Str) :: S :: onT w :: ps.map wT)=true:=dh hX (by decide +kernel) (by simp only [List.length_cons,List.length_map];omega)
 have ej:=jG (o:=true) hJ2
 rw [eW,List.map_cons,List.map_cons,List.map_cons] at ej
 have ad1:bC [.lst true [.str "work"],.lst false [.str S,.str (onT w)]]=some (.lst true [.str "work",.str S,.str (onT w)]):=rfl
 have ad2:bC [.lst true [.str "work",.str S,.str (onT w)],.lst true (ps.map fun p=>.str (wT p))]=some (.lst true ((("work" : Str) :: S :: onT w :: ps.map wT).map D.str)):=by
  rw [dAdd_lst _ _ _ _ (by rw [sizeLine_eq,List.length_map];show 3+_<=_;omega) rfl (aP (fun p=>D.str (wT p)) (fun _=>rfl) ps)]
  rw [List.map_cons,List.map_cons,List.map_cons,List.map_map]
  rfl
 have hP:∀ p∈ps,JoinOk ":" (p.map nT)=true:=fun p hm=>dh (A:=3) (gn (hp p hm).2) (by decide +kernel) (by rw [List.length_map,(hp p hm).1];decide)
 have tail:∀ {x1 x2 x3 x5 x6 x7 x8 x0:Option D},Oe [x0,x1,x2,x3,some (.tup (ps.map fun p=>.tup (its p))),x5,x6,x7,x8,some (.lst true [.str S,.str (onT w)])] fun d _=>Q d none:=by
  intro x1 x2 x3 x5 x6 x7 x8 x0
  dsimp? only [Oe,ad1,shp,fzp,List.length_map]
  refine aR (by omega) ?_
  (try dsimp? only)
  refine bK (fun p=>D.tup (its p)) (fun p=>D.str (wT p)) (fun ρ => ∃ x,ρ = [x]) ⟨_,rfl⟩ ?_ ?_
  ·rintro p hm ρ ⟨x,rfl⟩ P hP'
   dsimp? only [jz]
   refine lw (hp p hm).2 (by rw [(hp p hm).1];decide) (hP p hm) ?_
   dsimp? only [cj]
   exact hP' _ ⟨_,rfl⟩
  ·rintro ρ ⟨x,rfl⟩
   dsimp? only [ad1,ad2,ej]
   exact q
 cases w with
 | true=>
  dsimp? only [shp]
  exact tail
 | false=>
  dsimp? only [shp]
  exact tail
noncomputable def rT (ws:List Str):Str:=Txt.join " " ws
noncomputable def lnW (l:List Nat):List Str:= "line" :: l.map nT
noncomputable def stW (l:List Nat):List Str:= "store" :: l.map nT
noncomputable def hrW (ws:List (List Nat)):List Str:= "hour" :: ws.map wT
noncomputable def lR (n:Nat) (ls:List (List Nat)):D:=.tup [.int (n:Int),.tup (ls.map fun l=>.tup (its l))]
theorem tu {xs ys:List Str} {o:Bool} (h:xs.length+ys.length<=1000):jc (xs.map D.str) [.lst o (ys.map D.str)]=some ((xs++ys).map D.str,.non):=by
 unfold jc
 simp only
 rw [if_pos (by rw [sizeLine_eq,List.length_map,List.length_map];omega),List.map_append]
theorem rF {p x:Str} {l:List Nat} (hp:p=x++(" " : Str)) (hn:∀ n∈l,n<1000) (hne:l≠[]) (hl:l.length<=100) (hpl:p.length<=100):bC [.str p,.str (Txt.join " " (l.map nT))]=some (.str (rT (x :: l.map nT))):=by
 have h1:=nu (sep:=(" " : Str)) (gn hn) (by decide +kernel)
 rw [List.length_map] at h1
 show (if _<=sizeLine then some (D.str _) else none)=_
 rw [if_pos (by rw [sizeLine_eq];omega),rT,qd _ _ _ (by simpa using hne),hp]
noncomputable def hoA:bW:=(dW (iC jc 5 [.val (bN (cM (cY 1 (.val (sC (.int 1))))) 1 [] (gN 0) (cI) (sDo bC [.val (sC (.str "line ")),.val (aM 2 dw [.nam 0,.val (sC (.str " "))])]))]))
theorem Qw {n:Nat} {ls:List (List Nat)} {R:List Str} {x0 x2 x3 x4:Option D} {E:EndD} (h:∀ l∈ls,l.length=4 ∧ ∀ n∈l,n<1000) (hl:ls.length<=100) (hR:R.length<=100)
  (hE:E.nx [x0,some (lR n ls),x2,x3,x4,some (.lst true ((R++ls.map fun l=>rT (lnW l)).map D.str))]) :
  hoA [x0,some (lR n ls),x2,x3,x4,some (.lst true (R.map D.str))] E:=by
 have shl:D.shs (ls.map fun l=>D.tup (its l))=true:=aP (fun l=>D.tup (its l)) (fun l=>cj l) ls
 have fzl:D.fzs (ls.map fun l=>D.tup (its l))=ls.map fun l=>D.tup (its l):=D.shs_fz _ shl
 have ix:ixF (lR n ls) 1=some (.tup (ls.map fun l=>.tup (its l)),none):=by unfold lR;exact cu _ rfl shl
 have ex:=tu (xs:=R) (ys:=ls.map fun l=>rT (lnW l)) (o:=true) (by rw [List.length_map];omega)
 rw [List.map_map] at ex
 dsimp? only [hoA,ix,fzl,List.length_map]
 refine aR (by omega) ?_
 (try dsimp? only)
 refine bK (fun l=>D.tup (its l)) (fun l=>D.str (rT (lnW l))) (fun ρ => ∃ x,ρ = [x]) ⟨_,rfl⟩ ?_ ?_
 ·rintro l hm ρ ⟨x,rfl⟩ P hP
  obtain ⟨h4,hn⟩:=h l hm
  dsimp? only [jz]
  refine lw hn (by omega) (dh (A:=3) (gn hn) (by decide +kernel) (by rw [List.length_map];omega)) ?_
  have pr:=rF (p:= "line ") (x:= "line") (by decide +kernel) hn (fun e=>by rw [e] at h4;cases h4) (by omega) (by decide +kernel)
  dsimp? only [cj,pr]
  exact hP _ ⟨_,rfl⟩
 ·rintro ρ ⟨x,rfl⟩
  rw [show (ls.map fun l=>D.str (rT (lnW l)))=ls.map (D.str ∘ fun l=>rT (lnW l)) from rfl]
  dsimp? only [ex]
  exact hE
noncomputable def hoD:bW:=(dW (iC jc 5 [.val (bN (cM (aL 4)) 1 [] (gN 0) (cI) (sDo (cL " ") [.val (sDo bC [.val (eE [.val (sC (.str "hour"))]),.val (bN (cM (aL 0)) 1 [] (gN 0) (cI) (aM 2 dw [.nam 0,.val (sC (.str ":"))]))])]))]))
noncomputable def hsX (hs:List (List (List Nat))):List D:=hs.map fun ws=>.tup (ws.map fun w=>.tup (its w))
theorem Qz {hs:List (List (List Nat))} {R:List Str} {x0 x1 x2 x3:Option D} {E:EndD} (h:∀ ws∈hs,ws.length<=10 ∧ ∀ w∈ws,w.length=3 ∧ ∀ n∈w,n<1000) (hl:hs.length<=100) (hR:R.length<=500)
  (hE:E.nx [x0,x1,x2,x3,some (.tup (hsX hs)),some (.lst true ((R++hs.map fun ws=>rT (hrW ws)).map D.str))]) :
  hoD [x0,x1,x2,x3,some (.tup (hsX hs)),some (.lst true (R.map D.str))] E:=by
 have shw:∀ ws:List (List Nat),D.shs (ws.map fun w=>D.tup (its w))=true:=fun ws=>aP (fun w=>D.tup (its w)) (fun w=>cj w) ws
 have fzw:∀ ws:List (List Nat),D.fzs (ws.map fun w=>D.tup (its w))=ws.map fun w=>D.tup (its w):=fun ws=>D.shs_fz _ (shw ws)
 have shh:D.shs (hsX hs)=true:=aP (fun ws:List (List Nat)=>D.tup (ws.map fun w=>.tup (its w))) (fun ws=>shw ws) hs
 have fzh:D.fzs (hsX hs)=hsX hs:=D.shs_fz _ shh
 have lenh:(hsX hs).length=hs.length:=by unfold hsX;rw [List.length_map]
 have ex:=tu (xs:=R) (ys:=hs.map fun ws=>rT (hrW ws)) (o:=true) (by rw [List.length_map];omega)
 rw [List.map_map] at ex
 dsimp? only [hoD,shh,fzh,lenh]
 refine aR (by omega) ?_
 (try dsimp? only)
 refine bK (fun ws:List (List Nat)=>D.tup (ws.map fun w=>.tup (its w))) (fun ws=>D.str (rT (hrW ws))) (fun ρ => ∃ x,ρ = [x]) ⟨_,rfl⟩ ?_ ?_
 ·rintro ws hm ρ ⟨x,rfl⟩ P hP
  obtain ⟨h10,hw⟩:=h ws hm
  dsimp? only [shw,fzw,List.length_map]
  refine aR (by omega) ?_
  (try dsimp? only)
  refine bK (fun w=>D.tup (its w)) (fun w=>D.str (wT w)) (fun ρ => ∃ x,ρ = [x]) ⟨_,rfl⟩ ?_ ?_
  ·rintro w hm2 ρ ⟨x,rfl⟩ P2 hP2
   obtain ⟨h3,hn⟩:=hw w hm2
   dsimp? only [jz]
   refine lw hn (by omega) (dh (A:=3) (gn hn) (by decide +kernel) (by rw [List.length_map];omega)) ?_
   dsimp? only [cj]
   exact hP2 _ ⟨_,rfl⟩
  ·rintro ρ ⟨x,rfl⟩
   have ad:bC [.lst true [.str "hour"],.lst true (ws.map fun w=>.str (wT w))]=some (.lst true ((hrW ws).map D.str)):=by
    rw [dAdd_lst _ _ _ _ (by rw [sizeLine_eq,List.length_map];show 1+_<=_;omega) rfl (aP (fun p=>D.str (wT p)) (fun _=>rfl) ws)]
    unfold hrW
    rw [List.map_cons,List.map_map]
    rfl
   have ej:=jG (sep:= " ") (o:=true) (xs:=hrW ws) (dh (A:=12) (fun t ht=>by
    rcases List.mem_cons.mp ht with rfl | ht
    ·decide +kernel
    ·obtain ⟨w,hm2,rfl⟩:=List.mem_map.mp ht
     exact vM (hw w hm2).2 (m:=3) (by rw [(hw w hm2).1];exact Nat.le_refl _)) (by decide +kernel) (by unfold hrW;rw [List.length_cons,List.length_map];omega))
   dsimp? only [ad,ej]
   exact hP _ ⟨_,rfl⟩
 ·rintro ρ ⟨x,rfl⟩
  rw [show (hs.map fun ws=>D.str (rT (hrW ws)))=hs.map (D.str ∘ fun ws=>rT (hrW ws)) from rfl]
  dsimp? only [ex]
  exact hE
structure Wq where
 a:Nat
 b:Nat
 c:Nat
 d:Nat
 e:Nat
 f:Nat
 w:Bool
 ps:List (List Nat)
structure Wq.Ok (x:Wq):Prop where
 six:∀ n∈[x.a,x.b,x.c,x.d,x.e,x.f],n<1000
 p:∀ p∈x.ps,p.length=2 ∧ ∀ n∈p,n<1000
 p1:1<=x.ps.length
 pl:x.ps.length<=5
noncomputable def Wq.D (x:Wq):D:=wkD x.a x.b x.c x.d x.e x.f x.w x.ps
noncomputable def Wq.W (x:Wq):List Str:=wkW [x.a,x.b,x.c,x.d,x.e,x.f] x.w x.ps
theorem nP (x:Wq):x.D.sh=true:=by
 unfold Wq.D wkD
 simp [D.sh,D.shs,aP (fun p=>L2.D.tup (its p)) (fun p=>cj p)]
structure Hq where
 n:Nat
 ls:List (List Nat)
 ws:List Wq
 st:Option (List Nat)
 hs:List (List (List Nat))
structure Hq.Ok (x:Hq):Prop where
 n:x.n<1000
 l:∀ l∈x.ls,l.length=4 ∧ ∀ n∈l,n<1000
 ll:x.ls.length<=10
 w:∀ w∈x.ws,w.Ok
 wl:x.ws.length<=10
 s:∀ s,x.st=some s->s.length=5 ∧ ∀ n∈s,n<1000
 h:∀ ws∈x.hs,ws.length<=10 ∧ ∀ w∈ws,w.length=3 ∧ ∀ n∈w,n<1000
 hl:x.hs.length<=10
noncomputable def stX:Option (List Nat)->D
 | none=>.non
 | some s=>.tup (its s)
noncomputable def Hq.D (x:Hq):D:=.tup [lR x.n x.ls,.tup (x.ws.map Wq.D),stX x.st,.tup (hsX x.hs)]
noncomputable def Hq.rows (x:Hq):List (List Str):=["net",nT x.n] :: (x.ls.map lnW++(x.ws.map Wq.W++(x.st.toList.map stW++x.hs.map hrW)))
noncomputable def Hq.T (x:Hq):Str:=Txt.join "\n" (x.rows.map rT)
noncomputable def hoB:bW:=(dW (iC jc 5 [.val (bN (cM (aL 2)) 1 [] (gN 0) (cI) (aM 1 fW [.nam 0]))]))
theorem Qx {ws:List Wq} {R:List Str} {x0 x1 x3 x4:Option L2.D} {E:EndD} (h:∀ w∈ws,w.Ok) (hl:ws.length<=100) (hR:R.length<=200)
  (hE:E.nx [x0,x1,some (.tup (ws.map Wq.D)),x3,x4,some (.lst true ((R++ws.map fun w=>rT w.W).map L2.D.str))]) :
  hoB [x0,x1,some (.tup (ws.map Wq.D)),x3,x4,some (.lst true (R.map L2.D.str))] E:=by
 have shw:D.shs (ws.map Wq.D)=true:=aP Wq.D nP ws
 have fzw:D.fzs (ws.map Wq.D)=ws.map Wq.D:=D.shs_fz _ shw
 have ex:=tu (xs:=R) (ys:=ws.map fun w=>rT w.W) (o:=true) (by rw [List.length_map];omega)
 rw [List.map_map] at ex
 dsimp? only [hoB,shw,fzw,List.length_map]
 refine aR (by omega) ?_
 (try dsimp? only)
 refine bK Wq.D (fun w=>L2.D.str (rT w.W)) (fun ρ => ∃ x,ρ = [x]) ⟨_,rfl⟩ ?_ ?_
 ·rintro w hm ρ ⟨x,rfl⟩ P hP
  have o:=h w hm
  dsimp? only [D.sh_fz _ (nP w)]
  refine xT o.six o.p (by have:=o.pl;omega) ?_
  dsimp? only [nP]
  exact hP _ ⟨_,rfl⟩
 ·rintro ρ ⟨x,rfl⟩
  rw [show (ws.map fun w=>L2.D.str (rT w.W))=ws.map (L2.D.str ∘ fun w=>rT w.W) from rfl]
  dsimp? only [ex]
  exact hE
noncomputable def hoC:bW:=(sIf (tB' (sDo rR [.nam 3,.val (sC .non)]))
 (dW (iC cG 5 [.val (sDo bC [.val (sC (.str "store ")),.val (aM 2 dw [.nam 3,.val (sC (.str " "))])])]))
 (bJ))
theorem Qy {st:Option (List Nat)} {R:List Str} {x0 x1 x2 x4:Option L2.D} {E:EndD} (h:∀ s,st=some s->s.length=5 ∧ ∀ n∈s,n<1000) (hR:R.length<=400)
  (hE:E.nx [x0,x1,x2,some (stX st),x4,some (.lst true ((R++st.toList.map fun s=>rT (stW s)).map L2.D.str))]) :
  hoC [x0,x1,x2,some (stX st),x4,some (.lst true (R.map L2.D.str))] E:=by
 cases st with
 | none=>
  rw [show R++(none:Option (List Nat)).toList.map (fun s=>rT (stW s))=R from List.append_nil R] at hE
  dsimp? only [hoC,stX]
  exact hE
 | some s=>
  obtain ⟨h5,hn⟩:=h s rfl
  have pr:=rF (p:= "store ") (x:= "store") (by decide +kernel) hn (fun e=>by rw [e] at h5;cases h5) (by omega) (by decide +kernel)
  have ma:cG (R.map L2.D.str) [.str (rT ("store" :: s.map nT))]=some ((R++[rT (stW s)]).map L2.D.str,.non):=by
   rw [sZ _ _ (by rw [sizeLine_eq,List.length_map];omega),List.map_append];rfl
  dsimp? only [hoC,stX,jz]
  refine lw hn (by omega) (dh (A:=3) (gn hn) (by decide +kernel) (by rw [List.length_map];omega)) ?_
  dsimp? only [cj,pr,ma]
  exact hE
theorem Uq:dN=fnS 1 5 false
 (aC (mG (gT [gN 1,gN 2,gN 3,gN 4]) (aL 0))
 (aC (bh 5 (eE [.val (tM (sC (.str "net ")) (zQ (cY 1 (.val (sC (.int 0))))))]))
 (aC hoA (aC hoB (aC hoC (aC hoD
 (bR (sDo (cL "\n") [.nam 5])))))))):=by unfold dN hoA hoB hoC hoD;with_reducible rfl
theorem tU (x:Hq):x.D.sh=true:=by
 have h1:D.shs (x.ls.map fun l=>L2.D.tup (its l))=true:=aP (fun l=>L2.D.tup (its l)) (fun l=>cj l) _
 have h2:D.shs (x.ws.map Wq.D)=true:=aP Wq.D nP _
 have h3:(stX x.st).sh=true:=by cases x.st with
  | none=>rfl
  | some s=>exact cj s
 have h4:D.shs (hsX x.hs)=true:=aP (fun ws:List (List Nat)=>L2.D.tup (ws.map fun w=>.tup (its w))) (fun ws=>aP (fun w=>L2.D.tup (its w)) (fun w=>cj w) ws) _
 unfold Hq.D lR
 simp [D.sh,D.shs,h1,h2,h3,h4]
theorem Ir (w:Bool):(onT w).length<=3:=by cases w <;> decide +kernel
theorem Ai {x:Hq} (o:x.Ok):∀ r∈x.rows,r≠[]∧r.length<=20 ∧ ∀ t∈r,t.length<=12:=by
 intro r hr
 unfold Hq.rows at hr
 rcases List.mem_cons.mp hr with rfl | hr
 ·refine ⟨by simp,by simp,?_⟩
  intro t ht
  rcases List.mem_cons.mp ht with rfl | ht
  ·decide +kernel
  ·rcases List.mem_cons.mp ht with rfl | ht
   ·have:=(mD o.n).2;omega
   ·cases ht
 rcases List.mem_append.mp hr with hr | hr
 ·obtain ⟨l,hm,rfl⟩:=List.mem_map.mp hr
  obtain ⟨h4,hn⟩:=o.l l hm
  refine ⟨by simp [lnW],by unfold lnW;rw [List.length_cons,List.length_map];omega,?_⟩
  intro t ht
  rcases List.mem_cons.mp ht with rfl | ht
  ·decide +kernel
  ·have:=gn hn t ht;omega
 rcases List.mem_append.mp hr with hr | hr
 ·obtain ⟨w,hm,rfl⟩:=List.mem_map.mp hr
  have q:=o.w w hm
  refine ⟨by simp [Wq.W,wkW],by have:=q.pl;unfold Wq.W wkW;simp;omega,?_⟩
  intro t ht
  unfold Wq.W wkW at ht
  rcases List.mem_cons.mp ht with rfl | ht
  ·decide +kernel
  rcases List.mem_append.mp ht with ht | ht
  ·have:=gn q.six t ht;omega
  rcases List.mem_cons.mp ht with rfl | ht
  ·have:=Ir w.w;omega
  ·obtain ⟨p,hp,rfl⟩:=List.mem_map.mp ht
   have:=vM (q.p p hp).2 (m:=2) (by rw [(q.p p hp).1];exact Nat.le_refl _)
   omega
 rcases List.mem_append.mp hr with hr | hr
 ·obtain ⟨s,hm,rfl⟩:=List.mem_map.mp hr
  obtain ⟨h5,hn⟩:=o.s s (Option.mem_toList.mp hm)
  refine ⟨by simp [stW],by unfold stW;rw [List.length_cons,List.length_map];omega,?_⟩
  intro t ht
  rcases List.mem_cons.mp ht with rfl | ht
  ·decide +kernel
  ·have:=gn hn t ht;omega
 ·obtain ⟨ws,hm,rfl⟩:=List.mem_map.mp hr
  obtain ⟨h10,hw⟩:=o.h ws hm
  refine ⟨by simp [hrW],by unfold hrW;rw [List.length_cons,List.length_map];omega,?_⟩
  intro t ht
  rcases List.mem_cons.mp ht with rfl | ht
  ·decide +kernel
  ·obtain ⟨w,hm2,rfl⟩:=List.mem_map.mp ht
   exact vM (hw w hm2).2 (m:=3) (by rw [(hw w hm2).1];exact Nat.le_refl _)
theorem pF {x:Hq} (o:x.Ok):x.rows.length<=40:=by
 have:=o.ll
 have:=o.wl
 have:=o.hl
 have h:x.st.toList.length<=1:=by cases x.st <;> simp
 unfold Hq.rows
 simp only [List.length_cons,List.length_append,List.length_map]
 omega
theorem xx {x:Hq} (o:x.Ok):∀ t∈x.rows.map rT,t.length<=260:=by
 intro t ht
 obtain ⟨r,hr,rfl⟩:=List.mem_map.mp ht
 obtain ⟨_,h2,h3⟩:=Ai o r hr
 have:=nu (sep:=(" " : Str)) h3 (by decide +kernel)
 unfold rT
 omega
theorem uN {x:Hq} (o:x.Ok) {Q:L2.D->Option L2.D->Prop} (q:Q (.str x.T) none):dN [x.D] Q:=by
 have hJ:JoinOk "\n" (x.rows.map rT)=true:=dh (A:=260) (xx o) (by decide +kernel) (by have:=pF o;rw [List.length_map];omega)
 have ej:=jG (sep:= "\n") (o:=true) hJ
 have hlen:=mD o.n
 have shl:D.shs (x.ls.map fun l=>L2.D.tup (its l))=true:=aP (fun l=>L2.D.tup (its l)) (fun l=>cj l) _
 have ix:ixF (lR x.n x.ls) 0=some (.int (x.n:Int),none):=by unfold lR;exact cu _ rfl rfl
 have shn:(lR x.n x.ls).sh=true:=by unfold lR;simp [D.sh,D.shs,shl]
 have shx:=tU x
 have hw:D.shs (x.ws.map Wq.D)=true:=aP Wq.D nP _
 have e1:rT ["net",nT x.n]=("net " : Str)++nT x.n:=by
  unfold rT
  rw [iz,join_one]
  rfl
 rw [Uq]
 dsimp? only [shx]
 rw [show x.D = .tup [lR x.n x.ls,.tup (x.ws.map Wq.D),stX x.st,.tup (hsX x.hs)] from rfl]
 dsimp? only [ix,shn]
 have lap:(("net " : Str)++nT x.n).length=("net " : Str).length+(nT x.n).length:=by
  show (("net " : Str).cps++(nT x.n).cps).size=_
  rw [Array.size_append];rfl
 have l4:("net " : Str).length=4:=by decide +kernel
 have lg:((x.n:Int).natAbs.log2<1920):=by
  show Nat.log2 x.n<1920
  have h:=o.n
  by_cases hz:x.n=0
  ·rw [hz];decide +kernel
  ·exact Nat.lt_trans ((Nat.log2_lt hz).mpr (Nat.lt_trans h (by decide:1000<2 ^ 10))) (by decide)
 dsimp? only [↓Hi,↓Cq,D.strO,D.intO,ix,shn]
 refine aR (by rw [l4];decide) ?_
 dsimp? only [↓Cq,D.strO,D.intO,ix,shn]
 refine aR lg ?_
 dsimp? only [D.strO]
 refine aR (by show (("net " : Str)++nT x.n).length<=sizeLine;rw [sizeLine_eq,lap,l4];omega) ?_
 (try dsimp? only)
 have b1:=o.ll
 have b2:=o.wl
 have b4:=o.hl
 have b3:x.st.toList.length<=1:=by cases x.st <;> simp
 refine Qw (R:=[("net " : Str)++nT x.n]) o.l (by omega) (by simp) ?_
 refine Qx o.w (by omega) (by simp;omega) ?_
 refine Qy o.s (by simp;omega) ?_
 refine Qz o.h (by omega) (by simp;omega) ?_
 have er:((([("net " : Str)++nT x.n]++x.ls.map fun l=>rT (lnW l))++x.ws.map fun w=>rT w.W)++x.st.toList.map fun s=>rT (stW s))++x.hs.map (fun ws=>rT (hrW ws))=x.rows.map rT:=by
  unfold Hq.rows
  rw [← e1]
  simp only [List.map_cons,List.map_append,List.map_map,List.append_assoc,List.cons_append,List.nil_append]
  rfl
 rw [er]
 dsimp? only [ej]
 exact q
noncomputable def rdO:List Str:=["net", "line", "work", "store", "hour"]
noncomputable def rdK:List (Str×Str):=[("net", "read_net"),("line", "read_line"),("work", "read_work"),("store", "read_store"),("hour", "read_hour")]
noncomputable def rdT:List (Str×Nat×bV):=[("read_net",1,gG),("read_line",1,fU),("read_work",1,fV),("read_store",1,eZ),("read_hour",1,eU)]
noncomputable def rrE:bW:=(dW (DK 1 (cY 4 (.val (sC (.int 0)))) (xF 5 rdT [.val (sSlFrom (.nam 4) (.val (sC (.int 1))))])))
noncomputable def rrB:bW:= 
 (aC (bh 4 (sDo (fM " ") [.nam 3]))
 (aC (sIf (jr (tB' (sDo (mW "READERS" rdK) [.val (cY 4 (.val (sC (.int 0)))),.val (sC (.fn "READERS"))])) (tB' (sDo dLt [.val (sDo (ik rdO) [.val (cY 4 (.val (sC (.int 0))))]),.nam 2])))
 (jt)
 (bJ))
 (aC (bh 2 (sDo (ik rdO) [.val (cY 4 (.val (sC (.int 0))))]))
 (aC (bh 5 (sDo (rQ "READERS" rdK) [.val (sC (.fn "READERS")),.val (cY 4 (.val (sC (.int 0))))]))
 rrE))))
theorem Vm:gW=fnS 1 5 false
 (aC (bh 1 (tL (iGT rdO) 1 [] (gN 0) (aL 0) (eE [])))
 (aC (bh 2 (sC (.int 0)))
 (aC (iB (cM (sDo (fM "\n") [.nam 0])) (gN 3) rrB)
 (aC (sIf (jr (tB' (sDo dNe [.val (sDo jY [.val (sDo lq [.val (aL 1),.val (sC (.str "net"))])]),.val (sC (.int 1))])) (tB' (sDo dGt [.val (sDo jY [.val (sDo lq [.val (aL 1),.val (sC (.str "store"))])]),.val (sC (.int 1))])))
 (jt)
 (bJ))
 (tO 1))))):=by unfold gW rrB rrE rdO rdK rdT;with_reducible rfl
noncomputable def rdY:List Key:=rdO.map Sum.inr
noncomputable def fnd (A:List (List D)):D:=.dct true rdY (A.map (.lst true))
theorem Sx {wd y:Str} {r:List Str} {j:Nat} {sf:bV} {v:D} {A:List (List D)} {es:List D} {x0 x2 x3:Option D} {E:EndD}
  (ht:rdT.lookup y=some (1,sf)) (hk:uq (Sum.inr wd) rdY=some j) (ha:A[j]? = some es) (he:es.length<=100) (hv:v.sh=true) (hr:r.length<=100)
  (hc:∀ {Q:D->Option D->Prop},Q v none->sf [.lst false (r.map D.str)] Q)
  (q:E.nx [x0,some (fnd (A.set j (es++[v]))),x2,x3,some (.lst true ((wd :: r).map D.str)),some (.fn y)]) :
  rrE [x0,some (fnd A),x2,x3,some (.lst true ((wd :: r).map D.str)),some (.fn y)] E:=by
 have i0:ixF (.lst true (D.str wd :: r.map D.str)) 0=some (.str wd,none):=nq _ _ (mU (xs:=D.str wd :: r.map D.str) (j:=0) (v:=D.str wd) rfl) rfl
 unfold rrE
 show DK 1 (cY 4 (.val (sC (.int 0)))) (xF 5 rdT [.val (sSlFrom (.nam 4) (.val (sC (.int 1))))]) _ (fun _ ρ'=>E.nx ρ')
 refine ⟨⟨_,rfl⟩,?_⟩
 dsimp? only [i0]
 refine ⟨Sum.inr wd,j,rdY,A.map (.lst true),es,rfl,rfl,hk,by rw [List.getElem?_map,ha];rfl,y,1,sf,rfl,ht,?_⟩
 have sl:dSl (.lst true (D.str wd :: r.map D.str)) (some 1) none=some (.lst true (r.map D.str)):=by
  have hs:D.shs (D.str wd :: r.map D.str)=true:=aP D.str (fun _=>rfl) (wd :: r)
  show (if D.shs _=true then some (D.lst true (cutD _ (some ((1:Nat):Int)) none)) else none)=_
  rw [if_pos hs,uY _ 1 (by simp)]
  rfl
 have fzr:D.fzs (r.map D.str)=r.map D.str:=D.shs_fz _ (aP D.str (fun _=>rfl) r)
 dsimp? only [sl,fzr]
 refine hc ?_
 dsimp? only [hv]
 refine ⟨by omega,?_⟩
 rw [show (A.map (D.lst true)).set j (D.lst true (es++[v]))=(A.set j (es++[v])).map (D.lst true) from (List.map_set ..).symm]
 exact q
theorem Sw {wd y:Str} {r:List Str} {j p:Nat} {sf:bV} {v:D} {A:List (List D)} {es:List D} {x0 x4 x5:Option D} {E:EndD}
  (hi:ik rdO [.str wd]=some (.int (j:Int))) (hg:rdK.lookup wd=some y) (ht:rdT.lookup y=some (1,sf)) (hk:uq (Sum.inr wd) rdY=some j) (hp:p<=j)
  (hw:∀ t∈wd :: r,t.length<=12∧32 ∉ t.cps.toList) (ha:A[j]? = some es) (he:es.length<=100) (hv:v.sh=true) (hr:r.length<=100)
  (hc:∀ {Q:D->Option D->Prop},Q v none->sf [.lst false (r.map D.str)] Q)
  (q:E.nx [x0,some (fnd (A.set j (es++[v]))),some (.int (j:Int)),some (.str (rT (wd :: r))),some (.lst true ((wd :: r).map D.str)),some (.fn y)]) :
  rrB [x0,some (fnd A),some (.int (p:Int)),some (.str (rT (wd :: r))),x4,x5] E:=by
 have sp:fM " " [.str (rT (wd :: r))]=some (.lst true (D.str wd :: r.map D.str)):=pW (A:=12) tX (by decide) (by simp) (fun t ht=>(hw t ht).1) (by rw [List.length_cons];omega) (fun t ht=>(hw t ht).2)
 have i0:ixF (.lst true (D.str wd :: r.map D.str)) 0=some (.str wd,none):=nq _ _ (mU (xs:=D.str wd :: r.map D.str) (j:=0) (v:=D.str wd) rfl) rfl
 have ni:mW "READERS" rdK [.str wd,.fn "READERS"]=some (.bl false):=by
  unfold mW
  simp only
  rw [if_pos trivial,hg]
  rfl
 have gg:rQ "READERS" rdK [.fn "READERS",.str wd]=some (.fn y):=by
  unfold rQ
  simp only
  rw [if_pos trivial,hg]
  rfl
 have lt:decide ((j:Int)<(p:Int))=false:=decide_eq_false (by omega)
 unfold rrB
 dsimp? only [sp,i0,ni,gg,hi,lt]
 exact Sx ht hk ha he hv hr hc q
theorem nA {α : Type} {wd y:Str} {j:Nat} {sf:bV} {W : α -> List Str} {V : α -> D} {rest:List D} {x0:Option D} {E:EndD}
  (hi:ik rdO [.str wd]=some (.int (j:Int))) (hg:rdK.lookup wd=some y) (ht:rdT.lookup y=some (1,sf)) (hk:uq (Sum.inr wd) rdY=some j) (hsh:∀ a,(V a).sh=true) :
  ∀ (xs:List α) (A:List (List D)) (es:List D) (p:Nat) (x3 x4 x5:Option D),A[j]? = some es->p<=j->es.length+xs.length<=100 ->
  (∀ a∈xs,(∀ t∈wd :: W a,t.length<=12∧32 ∉ t.cps.toList)∧(W a).length<=100 ∧ ∀ {Q:D->Option D->Prop},Q (V a) none->sf [.lst false ((W a).map D.str)] Q) ->
  (∀ p' x3' x4' x5',p'<=j->forL (gN 3) rrB rest [x0,some (fnd (A.set j (es++xs.map V))),some (.int ((p':Nat):Int)),x3',x4',x5'] E) ->
  forL (gN 3) rrB ((xs.map fun a=>D.str (rT (wd :: W a)))++rest) [x0,some (fnd A),some (.int (p:Int)),x3,x4,x5] E
 | [],A,es,p,x3,x4,x5,ha,hp,hl,hx,hE=>by
  have:=hE p x3 x4 x5 hp
  obtain ⟨h1,h2⟩:=List.getElem?_eq_some_iff.mp ha
  rw [List.map_nil,List.append_nil,← h2,List.set_getElem_self] at this
  exact this
 | a :: xs,A,es,p,x3,x4,x5,ha,hp,hl,hx,hE=>by
  obtain ⟨h1,h2⟩:=List.getElem?_eq_some_iff.mp ha
  obtain ⟨hw,hr,hc⟩:=hx a (List.mem_cons_self ..)
  rw [List.length_cons] at hl
  rw [List.map_cons,List.cons_append]
  show rrB [x0,some (fnd A),some (.int (p:Int)),some (.str (rT (wd :: W a))),x4,x5] _
  refine Sw hi hg ht hk hp hw ha (by omega) (hsh a) hr hc ?_
  show forL (gN 3) rrB ((xs.map fun a=>D.str (rT (wd :: W a)))++rest) _ E
  refine nA hi hg ht hk hsh xs _ (es++[V a]) j _ _ _ (by rw [List.getElem?_set_self h1]) (Nat.le_refl _) (by simp;omega) (fun b hb=>hx b (List.mem_cons_of_mem _ hb)) ?_
  intro p' x3' x4' x5' hp'
  have:=hE p' x3' x4' x5' hp'
  rw [List.set_set,List.append_assoc]
  exact this
theorem Px {n c:Nat} (h:n<1000) (hc:c=32∨c=10∨1000<=c):c ∉ (nT n).cps.toList:=fun m=>by
 have:=tB h m
 omega
theorem wI {ns:List Nat} {c:Nat} (hn:∀ n∈ns,n<1000) (hc:c=32∨c=10∨1000<=c):∀ t∈ns.map nT,c ∉ t.cps.toList:=fun t ht=>by
 obtain ⟨n,hm,rfl⟩:=List.mem_map.mp ht
 exact Px (hn n hm) hc
theorem oJ {w:Str} {ds:List D} {ks:List Key} {es:List D} {x:Option D} {Q:List Key->List D->En->Prop} (hk:Ey ks (.inr w)=false) (h:mz (gN 0) (aL 0) (eE []) ds [some (.str w)] (ks++[.inr w]) (es++[.lst true []]) Q) :
  mz (gN 0) (aL 0) (eE []) (.str w :: ds) [x] ks es Q:=by
 unfold mz
 dsimp? only
 refine ⟨_,rfl,hk,?_⟩
 (try dsimp? only)
 exact h
theorem Ui {x0 x1 x2 x3 x4 x5:Option D} {Q:D->En->Prop} (q:Q (fnd [[],[],[],[],[]]) [x0,x1,x2,x3,x4,x5]):tL (iGT rdO) 1 [] (gN 0) (aL 0) (eE []) [x0,x1,x2,x3,x4,x5] Q:=by
 show mz (gN 0) (aL 0) (eE []) [.str "net",.str "line",.str "work",.str "store",.str "hour"] [none] [] [] _
 refine oJ rfl (oJ ?_ (oJ ?_ (oJ ?_ (oJ ?_ ?_))))
 ·decide +kernel
 ·decide +kernel
 ·decide +kernel
 ·decide +kernel
 ·exact q
theorem HN {c a:Nat}:∀ {ps:List (List Nat)},a∈jn c ps->a=c ∨ ∃ p∈ps,a∈p
 | [],h=>by cases h
 | [p],h=>.inr ⟨p,by simp,h⟩
 | p :: q :: r,h=>by
  rcases List.mem_append.mp (show a∈p++c :: jn c (q :: r) from h) with h | h
  ·exact .inr ⟨p,by simp,h⟩
  ·rcases List.mem_cons.mp h with h | h
   ·exact .inl h
   ·rcases HN h with h | ⟨z,hz,ha⟩
    ·exact .inl h
    ·exact .inr ⟨z,List.mem_cons_of_mem _ hz,ha⟩
theorem rB {c a:Nat} {sep:Str} {ts:List Str} (hs:sep=sg1 c) (hac:a≠c) (h:∀ t∈ts,a ∉ t.cps.toList):a ∉ (Txt.join sep ts).cps.toList:=by
 subst hs
 have e:Txt.join (sg1 c) ts=Str.join (sg1 c) ts:=glued_eq_join _ _
 rw [e,sV]
 intro m
 rcases HN m with m | ⟨p,hp,m⟩
 ·exact hac m
 ·obtain ⟨t,ht,rfl⟩:=List.mem_map.mp hp
  exact h t ht m
theorem Qe {p:List Nat} {c:Nat} (hn:∀ n∈p,n<1000) (hc:c=32∨c=10∨1000<=c):c ∉ (wT p).cps.toList:=rB yq (by omega) (wI hn hc)
theorem RC (w:Bool) {c:Nat} (hc:c=32∨c=10∨1000<=c):c ∉ (onT w).cps.toList:=by
 have h:∀ a∈(onT w).cps.toList,a≠32∧a≠10∧a<1000:=by cases w <;> decide +kernel
 exact fun m=>by have:=h c m;omega
theorem ul {x:Hq} (o:x.Ok) {c:Nat} (hc:c=32∨c=10∨1000<=c):∀ r∈x.rows,∀ t∈r,c ∉ t.cps.toList:=by
 have K:∀ w:Str,(w∈rdO)->c ∉ w.cps.toList:=by
  intro w hw
  have h:∀ w∈rdO,∀ a∈w.cps.toList,a≠32∧a≠10∧a<1000:=by decide +kernel
  exact fun m=>by have:=h w hw c m;omega
 intro r hr
 unfold Hq.rows at hr
 rcases List.mem_cons.mp hr with rfl | hr
 ·intro t ht
  rcases List.mem_cons.mp ht with rfl | ht
  ·exact K _ (by decide +kernel)
  ·rcases List.mem_cons.mp ht with rfl | ht
   ·exact Px o.n hc
   ·cases ht
 rcases List.mem_append.mp hr with hr | hr
 ·obtain ⟨l,hm,rfl⟩:=List.mem_map.mp hr
  intro t ht
  rcases List.mem_cons.mp ht with rfl | ht
  ·exact K _ (by decide +kernel)
  ·exact wI (o.l l hm).2 hc t ht
 rcases List.mem_append.mp hr with hr | hr
 ·obtain ⟨w,hm,rfl⟩:=List.mem_map.mp hr
  have q:=o.w w hm
  intro t ht
  unfold Wq.W wkW at ht
  rcases List.mem_cons.mp ht with rfl | ht
  ·exact K _ (by decide +kernel)
  rcases List.mem_append.mp ht with ht | ht
  ·exact wI q.six hc t ht
  rcases List.mem_cons.mp ht with rfl | ht
  ·exact RC _ hc
  ·obtain ⟨p,hp,rfl⟩:=List.mem_map.mp ht
   exact Qe (q.p p hp).2 hc
 rcases List.mem_append.mp hr with hr | hr
 ·obtain ⟨s,hm,rfl⟩:=List.mem_map.mp hr
  intro t ht
  rcases List.mem_cons.mp ht with rfl | ht
  ·exact K _ (by decide +kernel)
  ·exact wI (o.s s (Option.mem_toList.mp hm)).2 hc t ht
 ·obtain ⟨ws,hm,rfl⟩:=List.mem_map.mp hr
  intro t ht
  rcases List.mem_cons.mp ht with rfl | ht
  ·exact K _ (by decide +kernel)
  ·obtain ⟨w,hm2,rfl⟩:=List.mem_map.mp ht
   exact Qe ((o.h ws hm).2 w hm2).2 hc
theorem GK {x:Hq} (o:x.Ok):fM "\n" [.str x.T]=some (.lst true ((x.rows.map rT).map D.str)):=
 pW (A:=260) CT (by decide) (by unfold Hq.rows;simp) (xx o) (by have:=pF o;rw [List.length_map];omega) fun t ht=>by
  obtain ⟨r,hr,rfl⟩:=List.mem_map.mp ht
  exact rB tX (by decide) (ul o (.inr (.inl rfl)) r hr)
noncomputable def wkR (x:Wq):List Str:=[x.a,x.b,x.c,x.d,x.e,x.f].map nT++onT x.w :: x.ps.map wT
noncomputable def hrQ (ws:List (List Nat)):D:=.tup (ws.map fun w=>.tup (its w))
noncomputable def lnQ (l:List Nat):D:=.tup (its l)
theorem xR (ws:List (List Nat)):(hrQ ws).sh=true:=aP (fun w=>D.tup (its w)) (fun w=>cj w) ws
theorem mK (l:List Nat):(lnQ l).sh=true:=cj l
noncomputable def Hq.A (x:Hq):List (List L2.D):=[[.int (x.n:Int)],x.ls.map lnQ,x.ws.map Wq.D,x.st.toList.map lnQ,x.hs.map hrQ]
noncomputable def zX (x:Hq):List D:=([x.n].map fun n=>D.str (rT ("net" :: [nT n])))++((x.ls.map fun l=>D.str (rT ("line" :: l.map nT)))++((x.ws.map fun w=>D.str (rT ("work" :: wkR w))) ++
 ((x.st.toList.map fun s=>D.str (rT ("store" :: s.map nT)))++((x.hs.map fun ws=>D.str (rT ("hour" :: ws.map wT)))++[]))))
theorem xQ (x:Hq):(x.rows.map rT).map D.str=zX x:=by
 unfold Hq.rows zX
 simp only [List.map_cons,List.map_append,List.map_map,List.map_nil,List.append_nil,List.cons_append,List.nil_append]
 rfl
theorem oN {w:Str} {j:Nat} (h:ixS w rdO=some j):ik rdO [.str w]=some (.int (j:Int)):=by
 show (ixS w rdO).map _=_
 rw [h]
 rfl
theorem Mr {x:Hq} (o:x.Ok) {x0:Option D} {E:EndD} (q:∀ p x3 x4 x5,E.nx [x0,some (fnd x.A),some (.int ((p:Nat):Int)),x3,x4,x5]) :
  forL (gN 3) rrB (zX x) [x0,some (fnd [[],[],[],[],[]]),some (.int 0),none,none,none] E:=by
 have W:∀ r∈x.rows,∀ t∈r,t.length<=12∧32 ∉ t.cps.toList:=fun r hr t ht=>⟨(Ai o r hr).2.2 t ht,ul o (.inl rfl) r hr t ht⟩
 have b1:=o.ll
 have b2:=o.wl
 have b4:=o.hl
 have b3:x.st.toList.length<=1:=by cases x.st <;> simp
 unfold zX
 refine nA (wd:= "net") (y:= "read_net") (j:=0) (sf:=gG) (W:=fun n=>[nT n]) (V:=fun n=>.int (n:Int)) (oN (by decide +kernel)) (by decide +kernel) rfl (by decide +kernel) (fun _=>rfl) [x.n] _ [] 0 _ _ _ (by rfl) (Nat.le_refl _) (by simp) ?_ ?_
 ·intro a ha
  cases List.mem_singleton.mp ha
  exact ⟨W _ (by unfold Hq.rows;simp),by simp,fun h=>zN o.n h⟩
 intro p1 y3 y4 y5 hp1
 refine nA (wd:= "line") (y:= "read_line") (j:=1) (sf:=fU) (W:=fun l=>l.map nT) (V:=lnQ) (oN (by decide +kernel)) (by decide +kernel) rfl (by decide +kernel) mK x.ls [[.int (x.n:Int)],[],[],[],[]] [] p1 _ _ _ (by rfl) (by omega) (by simp;omega) ?_ ?_
 ·intro a ha
  have:=o.l a ha
  refine ⟨W (lnW a) (by unfold Hq.rows;simp;exact .inr (.inl ⟨a,ha,rfl⟩)),by rw [List.length_map];omega,fun h=>?_⟩
  rw [List.map_map]
  exact xq this.2 this.1 h
 intro p2 z3 z4 z5 hp2
 refine nA (wd:= "work") (y:= "read_work") (j:=2) (sf:=fV) (W:=wkR) (V:=Wq.D) (oN (by decide +kernel)) (by decide +kernel) rfl (by decide +kernel) nP x.ws [[.int (x.n:Int)],x.ls.map lnQ,[],[],[]] [] p2 _ _ _ (by rfl) (by omega) (by simp;omega) ?_ ?_
 ·intro a ha
  have:=o.w a ha
  refine ⟨W a.W (by unfold Hq.rows;simp;exact .inr (.inr (.inl ⟨a,ha,rfl⟩))),by have:=this.pl;unfold wkR;simp;omega,fun h=>?_⟩
  have e:(wkR a).map D.str=wrk [a.a,a.b,a.c,a.d,a.e,a.f] a.w a.ps:=by
   simp [wkR,wrk,wds,Function.comp_def]
  rw [e]
  exact xr (o:=true) this.six this.p this.p1 (by have:=this.pl;omega) h
 intro p3 u3 u4 u5 hp3
 refine nA (wd:= "store") (y:= "read_store") (j:=3) (sf:=eZ) (W:=fun l=>l.map nT) (V:=lnQ) (oN (by decide +kernel)) (by decide +kernel) rfl (by decide +kernel) mK x.st.toList [[.int (x.n:Int)],x.ls.map lnQ,x.ws.map Wq.D,[],[]] [] p3 _ _ _ (by rfl) (by omega) (by simp;omega) ?_ ?_
 ·intro a ha
  have:=o.s a (Option.mem_toList.mp ha)
  refine ⟨W (stW a) (by unfold Hq.rows;simp;exact .inr (.inr (.inr (.inl ⟨a,Option.mem_toList.mp ha,rfl⟩)))),by rw [List.length_map];omega,fun h=>?_⟩
  rw [List.map_map]
  exact uJ this.2 this.1 h
 intro p4 v3 v4 v5 hp4
 refine nA (wd:= "hour") (y:= "read_hour") (j:=4) (sf:=eU) (W:=fun l=>l.map wT) (V:=hrQ) (oN (by decide +kernel)) (by decide +kernel) rfl (by decide +kernel) xR x.hs [[.int (x.n:Int)],x.ls.map lnQ,x.ws.map Wq.D,x.st.toList.map lnQ,[]] [] p4 _ _ _ (by rfl) (by omega) (by simp;omega) ?_ ?_
 ·intro a ha
  have:=o.h a ha
  refine ⟨W (hrW a) (by unfold Hq.rows;simp;exact .inr (.inr (.inr (.inr ⟨a,ha,rfl⟩)))),by rw [List.length_map];omega,fun h=>?_⟩
  rw [List.map_map]
  exact xn this.2 (by omega) h
 intro p5 w3 w4 w5 hp5
 exact q p5 w3 w4 w5
noncomputable def sJ (A:List (List D)):D:=.dct false rdY (A.map (.lst false))
theorem shA (x:Hq):∀ l∈x.A,D.shs l=true:=by
 intro l hl
 simp only [Hq.A,List.mem_cons,List.not_mem_nil,or_false] at hl
 rcases hl with rfl | rfl | rfl | rfl | rfl
 ·rfl
 ·exact aP lnQ mK _
 ·exact aP Wq.D nP _
 ·exact aP lnQ mK _
 ·exact aP hrQ xR _
theorem fzA:∀ {A:List (List D)},(∀ l∈A,D.shs l=true)->D.fzs (A.map (.lst true))=A.map (.lst false)
 | [],_=>rfl
 | l :: A,h=>by
  have ih:=fzA (A:=A) fun l hl=>h l (List.mem_cons_of_mem _ hl)
  rw [List.map_cons,List.map_cons]
  show D.lst false (D.fzs l) :: D.fzs (A.map (.lst true))=_
  rw [ih,D.shs_fz _ (h l (List.mem_cons_self ..))]
theorem Vx:∀ {A:List (List D)},(∀ l∈A,D.shs l=true)->D.shs (A.map (.lst false))=true
 | [],_=>rfl
 | l :: A,h=>by
  have ih:=Vx (A:=A) fun l hl=>h l (List.mem_cons_of_mem _ hl)
  rw [List.map_cons]
  simp [D.shs,D.sh,ih,h l (List.mem_cons_self ..)]
theorem Hn (x:Hq):(fnd x.A).fz=sJ x.A:=by
 show D.dct false rdY (D.fzs _)=_
 rw [fzA (shA x)]
 rfl
theorem nJ (x:Hq):(sJ x.A).sh=true:=by
 unfold sJ
 simp [D.sh,Vx (shA x)]
theorem Cy {k:Key}:∀ {ks:List Key} {ds:List D} {n:Nat},uq k ks=some n->ww ks ds k=ds[n]?
 | [],ds,n,h=>by cases h
 | j :: js,[],n,h=>by simp [ww]
 | j :: js,d :: ds,n,h=>by
  unfold uq at h
  unfold ww
  by_cases c:j=k
  ·rw [if_pos c] at h
   cases h
   rw [if_pos c]
   rfl
  ·rw [if_neg c] at h
   obtain ⟨m,hm,rfl⟩:=Option.map_eq_some_iff.mp h
   rw [if_neg c,Cy hm]
   rfl
theorem Az (x:Hq) (w:Str) (j:Nat) (hk:uq (Sum.inr w) rdY=some j) {es:List D} (ha:x.A[j]? = some es):lq [sJ x.A,.str w]=some (.lst false es):=by
 show (ww rdY (x.A.map (.lst false)) (Sum.inr w)).bind _=_
 rw [Cy hk,List.getElem?_map,ha]
 show (if (D.lst false es).sh=true then some (D.lst false es) else none)=_
 rw [if_pos]
 have:=shA x es (List.mem_of_getElem? ha)
 simp [D.sh,this]
theorem pC {x:Hq} (o:x.Ok) {Q:D->Option D->Prop} (q:Q (sJ x.A) none):gW [.str x.T] Q:=by
 have cr:=GK o
 rw [xQ] at cr
 have hsl:(zX x).length<=40:=by rw [← xQ,List.length_map,List.length_map];exact pF o
 have shs':D.shs (zX x)=true:=by rw [← xQ];exact aP D.str (fun _=>rfl) _
 have fzs':D.fzs (zX x)=zX x:=D.shs_fz _ shs'
 rw [Vm]
 dsimp? only
 refine Ui ?_
 dsimp? only [cr,shs',fzs']
 refine aR (by omega) ?_
 (try dsimp? only)
 refine Mr o fun p x3 x4 x5=>?_
 have g0:=Az x "net" 0 (by decide +kernel) rfl
 have g3:=Az x "store" 3 (by decide +kernel) rfl
 have b3:x.st.toList.length<=1:=by cases x.st <;> simp
 have gt:decide (((x.st.toList.length:Nat):Int)>1)=false:=decide_eq_false (by omega)
 have fz2:(sJ x.A).fz=sJ x.A:=D.sh_fz _ (nJ x)
 have nf:(fnd x.A).sh=false:=by unfold fnd;simp [D.sh]
 dsimp? only [nf,Hn,fz2,nJ,g0,g3,List.length_map,gt]
 rw [Hn,show (!(((1:Nat):Int)==1))=false from rfl]
 dsimp? only [fz2,nJ,g3,List.length_map,gt]
 exact q
theorem uI {x:Hq} (o:x.Ok) (hH:∀ {Q:D->Option D->Prop},Q (.bl true) none->gF [x.D] Q) {Q:D->Option D->Prop} (q:Q x.D none):dM [.str x.T] Q:=by
 have g0:=Az x "net" 0 (by decide +kernel) rfl
 have g1:=Az x "line" 1 (by decide +kernel) rfl
 have g2:=Az x "work" 2 (by decide +kernel) rfl
 have g3:=Az x "store" 3 (by decide +kernel) rfl
 have g4:=Az x "hour" 4 (by decide +kernel) rfl
 have fz2:(sJ x.A).fz=sJ x.A:=D.sh_fz _ (nJ x)
 have s1:D.shs (x.ls.map lnQ)=true:=aP lnQ mK _
 have s2:D.shs (x.ws.map Wq.D)=true:=aP Wq.D nP _
 have s4:D.shs (x.hs.map hrQ)=true:=aP hrQ xR _
 have b1:=o.ll
 have b2:=o.wl
 have b4:=o.hl
 have shx:=tU x
 have ex:x.D = .tup [.tup [.int (x.n:Int),.tup (x.ls.map lnQ)],.tup (x.ws.map Wq.D),stX x.st,.tup (x.hs.map hrQ)]:=rfl
 have is:eX [.str x.T,.ty "str"]=some (.bl true):=by unfold eX;rfl
 have cl:(sJ x.A).clean=false:=by unfold sJ;simp [D.clean]
 have i0:dIx [.lst false [.int (x.n:Int)],.int 0]=some (.int (x.n:Int)):=rfl
 have f1:=D.shs_fz _ s1
 have f2:=D.shs_fz _ s2
 have f4:=D.shs_fz _ s4
 rcases hst:x.st with _ | s
 ·rw [hst] at g3 ex
  have e2:D.tup [.tup [.int (x.n:Int),.tup (x.ls.map lnQ)],.tup (x.ws.map Wq.D),.non,.tup (x.hs.map hrQ)]=x.D:=ex.symm
  simp only [Option.toList,List.map_nil] at g3
  dsimp? only [dM,is]
  refine pC o ?_
  dsimp? only [fz2,nJ,g0,g1,g2,g3,g4,cl,i0,s1,s2,s4,f1,f2,f4,List.isEmpty_nil,Bool.not_true]
  rw [e2]
  refine hH ?_
  dsimp? only [cl,shx]
  exact q
 ·rw [hst] at g3 ex
  have e2:D.tup [.tup [.int (x.n:Int),.tup (x.ls.map lnQ)],.tup (x.ws.map Wq.D),lnQ s,.tup (x.hs.map hrQ)]=x.D:=ex.symm
  have i3:dIx [.lst false [lnQ s],.int 0]=some (lnQ s):=by
   show ((atI [lnQ s] 0).bind fun d=>if d.sh=true then some d else none)=_
   rw [show atI [lnQ s] 0=some (lnQ s) from rfl]
   exact if_pos (mK s)
  have fs:(lnQ s).fz=lnQ s:=D.sh_fz _ (mK s)
  simp only [Option.toList,List.map_cons,List.map_nil] at g3
  dsimp? only [dM,is]
  refine pC o ?_
  dsimp? only [fz2,nJ,g0,g1,g2,g3,g4,cl,i0,i3,s1,s2,s4,f1,f2,f4,fs,mK,List.isEmpty_cons,Bool.not_false]
  rw [e2]
  refine hH ?_
  dsimp? only [cl,shx]
  exact q
inductive Pl:Nat->D->Prop
 | non (m:Nat):Pl m .non
 | int (m:Nat) (i:Int):Pl m (.int i)
 | bl (m:Nat) (b:Bool):Pl m (.bl b)
 | tup (m:Nat) (ds:List D):ds.length<=100->(∀ d∈ds,Pl m d)->Pl (m+1) (.tup ds)
theorem xU:∀ {ds:List D},(∀ d∈ds,d.sh=true)->D.shs ds=true
 | [],_=>rfl
 | d :: ds,h=>by simp [D.shs,h d (List.mem_cons_self ..),xU fun d hd=>h d (List.mem_cons_of_mem _ hd)]
theorem PJ {m:Nat} {d:D} (h:Pl m d):d.sh=true:=by
 induction h with
 | non=>rfl
 | int=>rfl
 | bl=>rfl
 | tup m ds hl hd ih=>exact xU ih
theorem Jd {m:Nat} {d:D} (h:Pl m d):∀ {Q:D->Option D->Prop},Q (.bl true) none->bB (m+1) [d] Q:=by
 induction h with
 | non m=>
  intro Q q
  have i1:eX [.non,.ty "tuple"]=some (.bl false):=by unfold eX;rfl
  unfold bB
  dsimp? only [i1]
  exact q
 | int m i=>
  intro Q q
  have i1:eX [.int i,.ty "tuple"]=some (.bl false):=by unfold eX;rfl
  have i2:eX [.int i,.ty "int"]=some (.bl true):=by unfold eX;rfl
  unfold bB
  dsimp? only [i1,i2]
  exact q
 | bl m b=>
  intro Q q
  have i1:eX [.bl b,.ty "tuple"]=some (.bl false):=by unfold eX;rfl
  have i2:eX [.bl b,.ty "int"]=some (.bl true):=by unfold eX;rfl
  unfold bB
  dsimp? only [i1,i2]
  exact q
 | tup m ds hl hd ih=>
  intro Q q
  have i1:eX [.tup ds,.ty "tuple"]=some (.bl true):=by unfold eX;rfl
  have sh:D.shs ds=true:=xU fun d h=>PJ (hd d h)
  have fz:D.fzs ds=ds:=D.shs_fz _ sh
  have ea:oK [.lst true (ds.map fun _=>D.bl true)]=some (.bl true):=by
   rw [oM true (fun _=>true)]
   simp
  unfold bB
  dsimp? only [i1,sh,fz]
  refine aR (by omega) ?_
  (try dsimp? only)
  have cm:∀ {P:List D->En->Prop},(∀ x,P (ds.map fun _=>D.bl true) [x])->iK (gN 0) cI (aM 1 (bB (m+1)) [.nam 0]) ds [none] P:=by
   intro P hP
   have:=bK (g:=gN 0) (el:=aM 1 (bB (m+1)) [.nam 0]) (xs:=ds) (ρ:=[none]) (Q:=P) id (fun _=>D.bl true) (fun ρ => ∃ x,ρ = [x]) ⟨_,rfl⟩ (by
    rintro d hm ρ ⟨x,rfl⟩ P2 hP2
    dsimp? only [id,D.sh_fz _ (PJ (hd d hm))]
    refine ih d hm ?_
    (try dsimp? only)
    exact hP2 _ ⟨_,rfl⟩) (by
    rintro ρ ⟨x,rfl⟩
    exact hP x)
   rw [List.map_id] at this
   exact this
  refine cm fun x=>?_
  dsimp? only [ea]
  exact q
theorem xj (m:Nat) {l:List Nat} (h:l.length<=100):Pl (m+1) (.tup (its l)):=.tup _ _ (by unfold its;rw [List.length_map];exact h) fun d hd=>by
 unfold its at hd
 obtain ⟨n,_,rfl⟩:=List.mem_map.mp hd
 exact .int _ _
theorem tE {α : Type} (m:Nat) {f : α -> D} {xs:List α} (h:xs.length<=100) (k:∀ a∈xs,Pl m (f a)):Pl (m+1) (.tup (xs.map f)):=.tup _ _ (by rw [List.length_map];exact h) fun d hd=>by
 obtain ⟨a,ha,rfl⟩:=List.mem_map.mp hd
 exact k a ha
theorem PB {x:Hq} (o:x.Ok):Pl 7 x.D:=by
 have b1:=o.ll
 have b2:=o.wl
 have b4:=o.hl
 refine .tup 6 _ (by simp) fun d hd=>?_
 simp only [List.mem_cons,List.not_mem_nil,or_false] at hd
 rcases hd with rfl | rfl | rfl | rfl
 ·refine .tup 5 _ (by simp) fun d hd=>?_
  simp only [List.mem_cons,List.not_mem_nil,or_false] at hd
  rcases hd with rfl | rfl
  ·exact .int _ _
  ·exact tE 4 (by omega) fun l hl=>xj 3 (by have:=(o.l l hl).1;omega)
 ·refine tE 5 (by omega) fun w hw=>?_
  have q:=o.w w hw
  refine .tup 4 _ (by simp) fun d hd=>?_
  simp only [List.mem_cons,List.not_mem_nil,or_false] at hd
  rcases hd with rfl | rfl | rfl | rfl | rfl | rfl | rfl | rfl
  ·exact .int _ _
  ·exact .int _ _
  ·exact .int _ _
  ·exact tE 3 (by have:=q.pl;omega) fun p hp=>xj 2 (by have:=(q.p p hp).1;omega)
  ·exact .int _ _
  ·exact .int _ _
  ·exact .int _ _
  ·exact .bl _ _
 ·cases hs:x.st with
  | none=>exact .non _
  | some s=>exact xj 5 (by have:=(o.s s hs).1;omega)
 ·exact tE 5 (by omega) fun ws hw=>tE 4 (by have:=(o.h ws hw).1;omega) fun w hm=>xj 3 (by have:=((o.h ws hw).2 w hm).1;omega)
theorem rH {ns:List Nat} (hn:∀ n∈ns,n<1000) {P:List D->En->Prop} (q:∀ x,P (wds ns) [x]):iK (gN 0) cI (sDo gP [.nam 0]) (its ns) [none] P:=by
 refine bK (fun n:Nat=>D.int (n:Int)) (fun n=>D.str (nT n)) (fun ρ => ∃ x,ρ = [x]) ⟨_,rfl⟩ ?_ ?_
 ·rintro n hm ρ ⟨x,rfl⟩ P hP
  dsimp? only [oU (hn n hm)]
  exact hP _ ⟨_,rfl⟩
 ·rintro ρ ⟨x,rfl⟩
  exact q x
theorem uf {ns:List Nat} {sep:Str} (hj:JoinOk sep (ns.map nT)=true):cL sep [.lst true (wds ns)]=some (.str (Txt.join sep (ns.map nT))):=by
 have e:wds ns=(ns.map nT).map D.str:=by unfold wds;rw [List.map_map];rfl
 rw [e]
 exact jG hj
noncomputable def ltA:bW:=(dW (iC cG 5 [.val (sDo bC [.val (sC (.str "line ")),.val (sDo (cL " ") [.val (bN (cM (aL 6)) 1 [] (gN 0) (cI) (sDo gP [.nam 0]))])])]))
theorem ph {xs:List Str} {y:Str} (h:xs.length<=1000):cG (xs.map D.str) [.str y]=some ((xs++[y]).map D.str,.non):=by
 rw [sZ _ _ (by rw [sizeLine_eq,List.length_map];omega),List.map_append];rfl
theorem Rb {l:List Nat} {R:List Str} {x0 x1 x2 x3 x4:Option D} {r:En} {E:EndD} (h4:l.length=4) (hn:∀ n∈l,n<1000) (hR:R.length<=1000)
  (hE:E.nx (x0 :: x1 :: x2 :: x3 :: x4 :: some (.lst true ((R++[rT (lnW l)]).map D.str)) :: some (.tup (its l)) :: r)) :
  ltA (x0 :: x1 :: x2 :: x3 :: x4 :: some (.lst true (R.map D.str)) :: some (.tup (its l)) :: r) E:=by
 have len:(its l).length=l.length:=by unfold its;rw [List.length_map]
 have jo:=uf (sep:= " ") (ns:=l) (dh (A:=3) (gn hn) (by decide +kernel) (by rw [List.length_map];omega))
 have pr:=rF (p:= "line ") (x:= "line") (by decide +kernel) hn (fun e=>by rw [e] at h4;cases h4) (by omega) (by decide +kernel)
 have ma:=ph (xs:=R) (y:=rT ("line" :: l.map nT)) hR
 dsimp? only [ltA,cj,jz,len]
 refine aR (by omega) ?_
 (try dsimp? only)
 refine rH hn fun x=>?_
 dsimp? only [jo,pr,ma]
 exact hE
noncomputable def ltC:bW:=(sIf (tB' (sDo rR [.nam 3,.val (sC .non)]))
 (dW (iC cG 5 [.val (sDo bC [.val (sC (.str "store ")),.val (sDo (cL " ") [.val (bN (cM (aL 3)) 1 [] (gN 0) (cI) (sDo gP [.nam 0]))])])]))
 (bJ))
theorem Rf {st:Option (List Nat)} {R:List Str} {x0 x1 x2 x4:Option D} {r:En} {E:EndD} (h:∀ s,st=some s->s.length=5 ∧ ∀ n∈s,n<1000) (hR:R.length<=1000)
  (hE:E.nx (x0 :: x1 :: x2 :: some (stX st) :: x4 :: some (.lst true ((R++st.toList.map fun s=>rT (stW s)).map D.str)) :: r)) :
  ltC (x0 :: x1 :: x2 :: some (stX st) :: x4 :: some (.lst true (R.map D.str)) :: r) E:=by
 cases st with
 | none=>
  rw [show R++(none:Option (List Nat)).toList.map (fun s=>rT (stW s))=R from List.append_nil R] at hE
  dsimp? only [ltC,stX]
  exact hE
 | some l=>
  obtain ⟨h5,hn⟩:=h l rfl
  have len:(its l).length=l.length:=by unfold its;rw [List.length_map]
  have jo:=uf (sep:= " ") (ns:=l) (dh (A:=3) (gn hn) (by decide +kernel) (by rw [List.length_map];omega))
  have pr:=rF (p:= "store ") (x:= "store") (by decide +kernel) hn (fun e=>by rw [e] at h5;cases h5) (by omega) (by decide +kernel)
  have ma:=ph (xs:=R) (y:=rT ("store" :: l.map nT)) hR
  dsimp? only [ltC,stX,cj,jz,len]
  refine aR (by omega) ?_
  (try dsimp? only)
  refine rH hn fun x=>?_
  dsimp? only [jo,pr,ma]
  exact hE
noncomputable def ltD:bW:=(dW (iC cG 5 [.val (sDo (cL " ") [.val (sDo bC [.val (eE [.val (sC (.str "hour"))]),.val (bN (cM (aL 16)) 1 [] (gN 0) (cI) (sDo (cL ":") [.val (bN (cM (aL 0)) 1 [] (gN 0) (cI) (sDo gP [.nam 0]))]))])])]))
theorem Rg {ws:List (List Nat)} {R:List Str} {x0 x1 x2 x3 x4 x6 x7 x8 x9 x10 x11 x12 x13 x14 x15:Option D} {E:EndD} (h10:ws.length<=10) (hw:∀ w∈ws,w.length=3 ∧ ∀ n∈w,n<1000) (hR:R.length<=1000)
  (hE:E.nx [x0,x1,x2,x3,x4,some (.lst true ((R++[rT (hrW ws)]).map D.str)),x6,x7,x8,x9,x10,x11,x12,x13,x14,x15,some (hrQ ws)]) :
  ltD [x0,x1,x2,x3,x4,some (.lst true (R.map D.str)),x6,x7,x8,x9,x10,x11,x12,x13,x14,x15,some (hrQ ws)] E:=by
 have shw:D.shs (ws.map fun w=>D.tup (its w))=true:=aP (fun w=>D.tup (its w)) (fun w=>cj w) ws
 have fzw:D.fzs (ws.map fun w=>D.tup (its w))=ws.map fun w=>D.tup (its w):=D.shs_fz _ shw
 have ma:=ph (xs:=R) (y:=rT (hrW ws)) hR
 have ad:bC [.lst true [.str "hour"],.lst true (ws.map fun w=>.str (wT w))]=some (.lst true ((hrW ws).map D.str)):=by
  rw [dAdd_lst _ _ _ _ (by rw [sizeLine_eq,List.length_map];show 1+_<=_;omega) rfl (aP (fun p=>D.str (wT p)) (fun _=>rfl) ws)]
  unfold hrW
  rw [List.map_cons,List.map_map]
  rfl
 have ej:=jG (sep:= " ") (o:=true) (xs:=hrW ws) (dh (A:=12) (fun t ht=>by
  rcases List.mem_cons.mp ht with rfl | ht
  ·decide +kernel
  ·obtain ⟨w,hm2,rfl⟩:=List.mem_map.mp ht
   exact vM (hw w hm2).2 (m:=3) (by rw [(hw w hm2).1];exact Nat.le_refl _)) (by decide +kernel) (by unfold hrW;rw [List.length_cons,List.length_map];omega))
 unfold hrQ at hE ⊢
 dsimp? only [ltD,shw,fzw,List.length_map]
 refine aR (by omega) ?_
 (try dsimp? only)
 refine bK (fun w=>D.tup (its w)) (fun w=>D.str (wT w)) (fun ρ => ∃ x,ρ = [x]) ⟨_,rfl⟩ ?_ ?_
 ·rintro l hm ρ ⟨x,rfl⟩ P hP
  obtain ⟨h3,hn⟩:=hw l hm
  have len:(its l).length=l.length:=by unfold its;rw [List.length_map]
  have jo:=uf (sep:= ":") (ns:=l) (dh (A:=3) (gn hn) (by decide +kernel) (by rw [List.length_map];omega))
  dsimp? only [cj,jz,len]
  refine aR (by omega) ?_
  (try dsimp? only)
  refine rH hn fun y=>?_
  dsimp? only [jo]
  exact hP _ ⟨_,rfl⟩
 ·rintro ρ ⟨x,rfl⟩
  dsimp? only [ad,ej]
  rw [show Txt.join " " (hrW ws)=rT (hrW ws) from rfl]
  dsimp? only [ma]
  exact hE
noncomputable def ltB:bW:= 
 (aC (bh 15 (sDo bC [.val (bN (cM (gb [.val (aL 7),.val (aL 8),.val (aL 9),.val (aL 11),.val (aL 12),.val (aL 13)])) 1 [] (gN 0) (cI) (sDo gP [.nam 0])),.val (eE [.val (sDo dIx [.val (eE [.val (sC (.str "off")),.val (sC (.str "on"))]),.val (sDo uo [.nam 14])])])]))
 (aC (bh 15 (sDo bC [.nam 15,.val (bN (cM (aL 10)) 2 [] (gT [gN 0,gN 1]) (cI) (sDo bC [.val (sDo bC [.val (sDo gP [.nam 0]),.val (sC (.str ":"))]),.val (sDo gP [.nam 1])]))]))
 (dW (iC cG 5 [.val (sDo bC [.val (sC (.str "work ")),.val (sDo (cL " ") [.nam 15])])]))))
theorem Uv:fQ=fnS 1 16 false
 (aC (mG (gT [gN 1,gN 2,gN 3,gN 4]) (aL 0))
 (aC (bh 5 (eE [.val (sDo bC [.val (sC (.str "net ")),.val (sDo gP [.val (cY 1 (.val (sC (.int 0))))])])]))
 (aC (iB (cM (cY 1 (.val (sC (.int 1))))) (gN 6) ltA)
 (aC (iB (cM (aL 2)) (gT [gN 7,gN 8,gN 9,gN 10,gN 11,gN 12,gN 13,gN 14]) ltB)
 (aC ltC
 (aC (iB (cM (aL 4)) (gN 16) ltD)
 (bR (sDo (cL "\n") [.nam 5])))))))):=by unfold fQ ltA ltB ltC ltD;with_reducible rfl
theorem vW {a b:Str} (h:a.length+b.length<=100000):bC [.str a,.str b]=some (.str (a++b)):=by
 show (if _<=sizeLine then some (D.str _) else none)=_
 rw [if_pos (by rw [sizeLine_eq];omega)]
theorem Ci {xs ys:List Str} (h:xs.length+ys.length<=1000):bC [.lst true (xs.map D.str),.lst true (ys.map D.str)]=some (.lst true ((xs++ys).map D.str)):=by
 rw [dAdd_lst _ _ _ _ (by rw [sizeLine_eq,List.length_map,List.length_map];omega) (aP D.str (fun _=>rfl) xs) (aP D.str (fun _=>rfl) ys),List.map_append]
theorem WD (a b:Str):(a++b).length=a.length+b.length:=by
 show (a.cps++b.cps).size=_
 rw [Array.size_append];rfl
theorem Rc {x:Wq} (o:x.Ok) {R:List Str} {x0 x1 x2 x3 x4 x6 x15 x16:Option D} {E:EndD} (hR:R.length<=1000)
  (hE:∀ y,E.nx [x0,x1,x2,x3,x4,some (.lst true ((R++[rT x.W]).map D.str)),x6,some (.int (x.a:Int)),some (.int (x.b:Int)),some (.int (x.c:Int)),some (.tup (x.ps.map fun p=>.tup (its p))),some (.int (x.d:Int)),some (.int (x.e:Int)),some (.int (x.f:Int)),some (.bl x.w),y,x16]) :
  ltB [x0,x1,x2,x3,x4,some (.lst true (R.map D.str)),x6,some (.int (x.a:Int)),some (.int (x.b:Int)),some (.int (x.c:Int)),some (.tup (x.ps.map fun p=>.tup (its p))),some (.int (x.d:Int)),some (.int (x.e:Int)),some (.int (x.f:Int)),some (.bl x.w),x15,x16] E:=by
 have on:dIx [.lst true [.str "off",.str "on"],.int (if x.w=true then 1 else 0)]=some (.str (onT x.w)):=by cases x.w <;> rfl
 have pl:=o.pl
 have a1:bC [.lst true (wds [x.a,x.b,x.c,x.d,x.e,x.f]),.lst true [.str (onT x.w)]]=some (.lst true (([x.a,x.b,x.c,x.d,x.e,x.f].map nT++[onT x.w]).map D.str)):=Ci (xs:=[x.a,x.b,x.c,x.d,x.e,x.f].map nT) (ys:=[onT x.w]) (by simp)
 have e2:(x.ps.map fun p=>D.str (wT p))=(x.ps.map wT).map D.str:=by rw [List.map_map];rfl
 have a2:=Ci (xs:=[x.a,x.b,x.c,x.d,x.e,x.f].map nT++[onT x.w]) (ys:=x.ps.map wT) (by simp;omega)
 have shp:D.shs (x.ps.map fun p=>D.tup (its p))=true:=aP (fun p=>D.tup (its p)) (fun p=>cj p) x.ps
 have fzp:D.fzs (x.ps.map fun p=>D.tup (its p))=x.ps.map fun p=>D.tup (its p):=D.shs_fz _ shp
 generalize hW:[x.a,x.b,x.c,x.d,x.e,x.f].map nT++[onT x.w]=W1 at a1 a2
 have hW2:x.W=("work" : Str) :: (W1++x.ps.map wT):=by
  rw [← hW]
  unfold Wq.W wkW
  rw [List.append_assoc]
  rfl
 have hle:∀ t∈W1++x.ps.map wT,t.length<=8:=by
  intro t ht
  rcases List.mem_append.mp ht with ht | ht
  ·rw [← hW] at ht
   rcases List.mem_append.mp ht with ht | ht
   ·have:=gn o.six t ht;omega
   ·cases List.mem_singleton.mp ht
    have:=Ir x.w;omega
  ·obtain ⟨p,hp,rfl⟩:=List.mem_map.mp ht
   exact vM (o.p p hp).2 (m:=2) (by rw [(o.p p hp).1];exact Nat.le_refl _)
 have hln:(W1++x.ps.map wT).length<=20:=by rw [← hW];simp;omega
 have hne:W1++x.ps.map wT≠[]:=by rw [← hW];simp
 have ej:=jG (sep:= " ") (o:=true) (dh (A:=8) hle (by decide +kernel) (by omega))
 have jl:=nu (sep:=(" " : Str)) hle (by decide +kernel)
 have a3:bC [.str "work ",.str (Txt.join " " (W1++x.ps.map wT))]=some (.str (rT x.W)):=by
  rw [vW (by have:("work " : Str).length=5:=(by decide +kernel);omega),hW2,rT,qd _ _ _ hne]
  rfl
 have ma:=ph (xs:=R) (y:=rT x.W) hR
 unfold ltB
 dsimp? only
 refine rH (ns:=[x.a,x.b,x.c,x.d,x.e,x.f]) o.six fun y=>?_
 dsimp? only [on,a1,shp,fzp,List.length_map]
 refine aR (by omega) ?_
 (try dsimp? only)
 refine bK (fun p=>D.tup (its p)) (fun p=>D.str (wT p)) (fun ρ => ∃ x y,ρ = [x,y]) ⟨_,_,rfl⟩ ?_ ?_
 ·rintro p hp ρ ⟨u,v,rfl⟩ P hP
  obtain ⟨h2,hn⟩:=o.p p hp
  obtain ⟨a,b,rfl⟩:∃ a b,p=[a,b]:=by
   match p,h2 with
   | [a,b],_=>exact ⟨a,b,rfl⟩
  have ha:=hn a (by simp)
  have hb:=hn b (by simp)
  have l1:=(mD ha).2
  have l2:=(mD hb).2
  have c1:(":" : Str).length=1:=by decide +kernel
  have d1:=vW (a:=nT a) (b:= ":") (by omega)
  have d2:=vW (a:=nT a++(":" : Str)) (b:=nT b) (by rw [WD];omega)
  have ew:wT [a,b]=nT a++(":" : Str)++nT b:=by unfold wT;rw [List.map_cons,List.map_cons,List.map_nil,iz,join_one]
  rw [ew] at hP
  rw [show its [a,b]=[.int (a:Int),.int (b:Int)] from rfl]
  dsimp? only [oU ha,oU hb,d1,d2]
  exact hP _ ⟨_,_,rfl⟩
 ·rintro ρ ⟨u,v,rfl⟩
  rw [e2]
  dsimp? only [a2,ej,a3,ma]
  exact hE _
theorem mY {α : Type} (gI : α -> D) (f : α -> Str) {g:dY} {b:bW} {E:EndD} (I:List Str->En->Prop):∀ {xs:List α} {R:List Str} {ρ : En},R.length+xs.length<=1000->I R ρ ->
  (∀ x∈xs,∀ R ρ,R.length<=1000->I R ρ -> ∀ P:En->Prop,(∀ ρ',I (R++[f x]) ρ'->P ρ')->g (gI x) ρ fun ρ1=>b ρ1 ⟨P,E.rt,E.nx,P⟩)->(∀ ρ',I (R++xs.map f) ρ'->E.nx ρ')->forL g b (xs.map gI) ρ E
 | [],R,ρ,_,h0,_,hE=>hE ρ (by rw [List.map_nil,List.append_nil];exact h0)
 | x :: xs,R,ρ,hl,h0,hs,hE=>by
  rw [List.length_cons] at hl
  show g (gI x) ρ fun ρ1=>b ρ1 ⟨fun ρ2=>forL g b (xs.map gI) ρ2 E,E.rt,E.nx,fun ρ2=>forL g b (xs.map gI) ρ2 E⟩
  refine hs x List.mem_cons_self R ρ (by omega) h0 _ fun ρ' h'=>?_
  refine mY gI f I (by rw [List.length_append];show _+1+_<=_;omega) h' (fun y hy=>hs y (List.mem_cons_of_mem _ hy)) fun ρ2 h2=>hE ρ2 ?_
  rw [List.append_assoc] at h2
  exact h2
theorem My {XA XB XC XD:bW}
  (hA:∀ {l:List Nat} {R:List Str} {x0 x1 x2 x3 x4:Option D} {r:En} {E:EndD},l.length=4->(∀ n∈l,n<1000)->R.length<=1000 ->
   E.nx (x0 :: x1 :: x2 :: x3 :: x4 :: some (.lst true ((R++[rT (lnW l)]).map D.str)) :: some (.tup (its l)) :: r)->XA (x0 :: x1 :: x2 :: x3 :: x4 :: some (.lst true (R.map D.str)) :: some (.tup (its l)) :: r) E)
  (hB:∀ {x:Wq},x.Ok -> ∀ {R:List Str} {x0 x1 x2 x3 x4 x6 x15 x16:Option D} {E:EndD},R.length<=1000 ->
   (∀ y,E.nx [x0,x1,x2,x3,x4,some (.lst true ((R++[rT x.W]).map D.str)),x6,some (.int (x.a:Int)),some (.int (x.b:Int)),some (.int (x.c:Int)),some (.tup (x.ps.map fun p=>.tup (its p))),some (.int (x.d:Int)),some (.int (x.e:Int)),some (.int (x.f:Int)),some (.bl x.w),y,x16]) ->
   XB [x0,x1,x2,x3,x4,some (.lst true (R.map D.str)),x6,some (.int (x.a:Int)),some (.int (x.b:Int)),some (.int (x.c:Int)),some (.tup (x.ps.map fun p=>.tup (its p))),some (.int (x.d:Int)),some (.int (x.e:Int)),some (.int (x.f:Int)),some (.bl x.w),x15,x16] E)
  (hC:∀ {st:Option (List Nat)} {R:List Str} {x0 x1 x2 x4:Option D} {r:En} {E:EndD},(∀ s,st=some s->s.length=5 ∧ ∀ n∈s,n<1000)->R.length<=1000 ->
   E.nx (x0 :: x1 :: x2 :: some (stX st) :: x4 :: some (.lst true ((R++st.toList.map fun s=>rT (stW s)).map D.str)) :: r)->XC (x0 :: x1 :: x2 :: some (stX st) :: x4 :: some (.lst true (R.map D.str)) :: r) E)
  (hD:∀ {ws:List (List Nat)} {R:List Str} {x0 x1 x2 x3 x4 x6 x7 x8 x9 x10 x11 x12 x13 x14 x15:Option D} {E:EndD},ws.length<=10->(∀ w∈ws,w.length=3 ∧ ∀ n∈w,n<1000)->R.length<=1000 ->
   E.nx [x0,x1,x2,x3,x4,some (.lst true ((R++[rT (hrW ws)]).map D.str)),x6,x7,x8,x9,x10,x11,x12,x13,x14,x15,some (hrQ ws)] ->
   XD [x0,x1,x2,x3,x4,some (.lst true (R.map D.str)),x6,x7,x8,x9,x10,x11,x12,x13,x14,x15,some (hrQ ws)] E)
  {x:Hq} (o:x.Ok) {Q:D->Option D->Prop} (q:Q (.str x.T) none):fnS 1 16 false
 (aC (mG (gT [gN 1,gN 2,gN 3,gN 4]) (aL 0))
 (aC (bh 5 (eE [.val (sDo bC [.val (sC (.str "net ")),.val (sDo gP [.val (cY 1 (.val (sC (.int 0))))])])]))
 (aC (iB (cM (cY 1 (.val (sC (.int 1))))) (gN 6) XA)
 (aC (iB (cM (aL 2)) (gT [gN 7,gN 8,gN 9,gN 10,gN 11,gN 12,gN 13,gN 14]) XB)
 (aC XC
 (aC (iB (cM (aL 4)) (gN 16) XD)
 (bR (sDo (cL "\n") [.nam 5])))))))) [x.D] Q:=by
 have hJ:JoinOk "\n" (x.rows.map rT)=true:=dh (A:=260) (xx o) (by decide +kernel) (by have:=pF o;rw [List.length_map];omega)
 have ej:=jG (sep:= "\n") (o:=true) hJ
 have hlen:=mD o.n
 have shl:D.shs (x.ls.map fun l=>L2.D.tup (its l))=true:=aP (fun l=>L2.D.tup (its l)) (fun l=>cj l) _
 have fzl:D.fzs (x.ls.map fun l=>L2.D.tup (its l))=x.ls.map fun l=>L2.D.tup (its l):=D.shs_fz _ shl
 have ix:ixF (lR x.n x.ls) 0=some (.int (x.n:Int),none):=by unfold lR;exact cu _ rfl rfl
 have ix1:ixF (lR x.n x.ls) 1=some (.tup (x.ls.map fun l=>L2.D.tup (its l)),none):=by unfold lR;exact cu _ rfl shl
 have shn:(lR x.n x.ls).sh=true:=by unfold lR;simp [D.sh,D.shs,shl]
 have shx:=tU x
 have hw:D.shs (x.ws.map Wq.D)=true:=aP Wq.D nP _
 have fzw:D.fzs (x.ws.map Wq.D)=x.ws.map Wq.D:=D.shs_fz _ hw
 have hh:D.shs (x.hs.map hrQ)=true:=aP hrQ xR _
 have fzh:D.fzs (x.hs.map hrQ)=x.hs.map hrQ:=D.shs_fz _ hh
 have shs:(stX x.st).sh=true:=by cases x.st with
  | none=>rfl
  | some s=>exact cj s
 have l4:("net " : Str).length=4:=by decide +kernel
 have a1:=vW (a:= "net ") (b:=nT x.n) (by omega)
 have si:=oU o.n
 have e1:rT ["net",nT x.n]=("net " : Str)++nT x.n:=by
  unfold rT
  rw [iz,join_one]
  rfl
 have b1:=o.ll
 have b2:=o.wl
 have b4:=o.hl
 have b3:x.st.toList.length<=1:=by cases x.st <;> simp
 dsimp? only [shx]
 rw [show x.D = .tup [lR x.n x.ls,.tup (x.ws.map Wq.D),stX x.st,.tup (x.hs.map hrQ)] from rfl]
 dsimp? only [ix,shn,si,a1,ix1,shl,fzl,List.length_map]
 refine aR (by omega) ?_
 (try dsimp? only)
 rw [show [D.str (("net " : Str)++nT x.n)]=[("net " : Str)++nT x.n].map D.str from rfl]
 generalize ("net " : Str)++nT x.n=t0 at e1
 generalize hX:lR x.n x.ls=NX at *
 refine mY (fun l=>L2.D.tup (its l)) (fun l=>rT (lnW l)) (fun R ρ => ∃ y0 y6,ρ = [y0,some NX,some (.tup (x.ws.map Wq.D)),some (stX x.st),some (.tup (x.hs.map hrQ)),some (.lst true (R.map D.str)),y6,none,none,none,none,none,none,none,none,none,none]) (R:=[t0]) (by simp;omega) ⟨_,_,rfl⟩ ?_ ?_
 ·rintro l hl R ρ hR ⟨y0,y6,rfl⟩ P hP
  obtain ⟨h4,hn⟩:=o.l l hl
  dsimp? only
  exact hA h4 hn hR (hP _ ⟨_,_,rfl⟩)
 rintro ρ ⟨y0,y6,rfl⟩
 generalize hR1:[t0]++x.ls.map (fun l=>rT (lnW l))=R1
 dsimp? only [hw,fzw,List.length_map]
 refine aR (by omega) ?_
 (try dsimp? only)
 have lR1:R1.length<=20:=by rw [← hR1];simp;omega
 refine mY Wq.D (fun w=>rT w.W) (fun R ρ => ∃ y0 y2 y6 y7 y8 y9 y10 y11 y12 y13 y14 y15,ρ = [y0,some NX,y2,some (stX x.st),some (.tup (x.hs.map hrQ)),some (.lst true (R.map D.str)),y6,y7,y8,y9,y10,y11,y12,y13,y14,y15,none]) (R:=R1) (by omega) ⟨_,_,_,_,_,_,_,_,_,_,_,_,rfl⟩ ?_ ?_
 ·rintro w hm R ρ hR ⟨y0,y2,y6,y7,y8,y9,y10,y11,y12,y13,y14,y15,rfl⟩ P hP
  have ow:=o.w w hm
  have shp:D.shs (w.ps.map fun p=>D.tup (its p))=true:=aP (fun p=>D.tup (its p)) (fun p=>cj p) w.ps
  have ew:w.D = .tup [.int (w.a:Int),.int (w.b:Int),.int (w.c:Int),.tup (w.ps.map fun p=>.tup (its p)),.int (w.d:Int),.int (w.e:Int),.int (w.f:Int),.bl w.w]:=rfl
  rw [ew]
  dsimp? only [shp]
  exact hB ow hR fun y=>hP _ ⟨_,_,_,_,_,_,_,_,_,_,_,_,rfl⟩
 rintro ρ ⟨y0,y2,y6,y7,y8,y9,y10,y11,y12,y13,y14,y15,rfl⟩
 generalize hR2:R1++x.ws.map (fun w=>rT w.W)=R2
 have lR2:R2.length<=40:=by rw [← hR2];simp;omega
 (try dsimp? only)
 refine hC o.s (by omega) ?_
 generalize hR3:R2++x.st.toList.map (fun s=>rT (stW s))=R3
 have lR3:R3.length<=50:=by rw [← hR3];simp;omega
 dsimp? only [hh,fzh,List.length_map]
 refine aR (by omega) ?_
 (try dsimp? only)
 refine mY hrQ (fun ws=>rT (hrW ws)) (fun R ρ => ∃ y0 y1 y2 y3 y4 y6 y7 y8 y9 y10 y11 y12 y13 y14 y15 y16,ρ = [y0,y1,y2,y3,y4,some (.lst true (R.map D.str)),y6,y7,y8,y9,y10,y11,y12,y13,y14,y15,y16]) (R:=R3) (by omega) ⟨_,_,_,_,_,_,_,_,_,_,_,_,_,_,_,_,rfl⟩ ?_ ?_
 ·rintro ws hm R ρ hR ⟨y0,y1,y2,y3,y4,y6,y7,y8,y9,y10,y11,y12,y13,y14,y15,y16,rfl⟩ P hP
  obtain ⟨h10,h3⟩:=o.h ws hm
  dsimp? only
  exact hD h10 h3 hR (hP _ ⟨_,_,_,_,_,_,_,_,_,_,_,_,_,_,_,_,rfl⟩)
 rintro ρ ⟨y0,y1,y2,y3,y4,y6,y7,y8,y9,y10,y11,y12,y13,y14,y15,y16,rfl⟩
 have er:R3++x.hs.map (fun ws=>rT (hrW ws))=x.rows.map rT:=by
  rw [← hR3,← hR2,← hR1,← e1]
  unfold Hq.rows
  simp only [List.map_cons,List.map_append,List.map_map,List.append_assoc,List.cons_append,List.nil_append]
  rfl
 rw [er]
 dsimp? only [ej]
 exact q
theorem yZ {x:Hq} (o:x.Ok) {Q:D->Option D->Prop} (q:Q (.str x.T) none):fQ [x.D] Q:=by
 rw [Uv]
 exact My @Rb @Rc @Rf @Rg o q
end Z
namespace Z
open PySem L2 TM PyProof.Rows
noncomputable def Gv (w:Wk):Wq:=⟨w.p,w.a,w.b,w.c,w.g,w.e,w.f,w.ps.map fun x=>[x.1,x.2]⟩
noncomputable def QC (n:Nat) (ls:List Ln) (ws:List Wk) (o:Option Sr) (hs:List (List Wt)):Hq:=⟨n,ls.map fun l=>[l.a,l.b,l.s,l.m],ws.map Gv,o.map fun s=>[s.p,s.a,s.b,s.c,s.g],hs.map fun l=>l.map fun t=>[t.p,t.s,t.w]⟩
theorem We (w:Wk):(Gv w).D=w.d:=by
 show D.tup [_,_,_,.tup ((w.ps.map fun x=>[x.1,x.2]).map fun p=>.tup (its p)),_,_,_,_]=_
 rw [List.map_map];rfl
theorem Pn (n:Nat) (ls:List Ln) (ws:List Wk) (o:Option Sr) (hs:List (List Wt)):(QC n ls ws o hs).D = .tup [jk n ls,.tup (ws.map Wk.d),stD o,.tup (hs.map hrD)]:=by
 have e1:((ls.map fun l=>[l.a,l.b,l.s,l.m]).map fun l=>D.tup (its l))=ls.map Ln.d:=by rw [List.map_map];rfl
 have e2:(ws.map Gv).map Wq.D=ws.map Wk.d:=by
  rw [List.map_map]
  exact List.map_congr_left fun w _=>We w
 have e3:stX (o.map fun s=>[s.p,s.a,s.b,s.c,s.g])=stD o:=by cases o <;> rfl
 have e4:((hs.map fun l=>l.map fun t=>[t.p,t.s,t.w]).map fun ws=>D.tup (ws.map fun w=>.tup (its w)))=hs.map hrD:=by
  rw [List.map_map]
  refine List.map_congr_left fun l _=>?_
  show D.tup ((l.map fun t=>[t.p,t.s,t.w]).map fun w=>.tup (its w))=hrD l
  rw [List.map_map];rfl
 show D.tup [.tup [.int (n:Int),.tup ((ls.map fun l=>[l.a,l.b,l.s,l.m]).map fun l=>D.tup (its l))],.tup ((ws.map Gv).map Wq.D),stX (o.map fun s=>[s.p,s.a,s.b,s.c,s.g]),.tup ((hs.map fun l=>l.map fun t=>[t.p,t.s,t.w]).map fun ws=>D.tup (ws.map fun w=>.tup (its w)))]=_
 rw [e1,e2,e3,e4];rfl
theorem Wf {n:Nat} {w:Wk} (hn:n<=4) (h:WkS n w):(Gv w).Ok:=by
 have h1:=h.p;have h2:=h.a;have h3:=h.b;have h4:=h.c;have h5:=h.g;have h6:=h.e
 have hp:∀ x∈w.ps,x.1<1000∧x.2<1000:=fun x hx=>by
  rcases h.ps with ⟨y,e,q⟩ | ⟨y,z,e,q,q2,_⟩
  ·rw [e] at hx
   cases List.mem_singleton.mp hx
   have:=q.b;have:=q.c;omega
  ·rw [e] at hx
   simp only [List.mem_cons,List.not_mem_nil,or_false] at hx
   rcases hx with rfl | rfl
   ·have:=q.b;have:=q.c;omega
   ·have:=q2.b;have:=q2.c;omega
 have hl:1<=w.ps.length∧w.ps.length<=2:=by rcases h.ps with ⟨y,e,q⟩ | ⟨y,z,e,q⟩ <;> rw [e] <;> simp
 refine ⟨fun k hk=>?_,fun p hp'=>?_,by show 1<=(w.ps.map _).length;rw [List.length_map];omega,by show (w.ps.map _).length<=5;rw [List.length_map];omega⟩
 ·simp only [Gv,List.mem_cons,List.not_mem_nil,or_false] at hk
  omega
 ·obtain ⟨x,hx,rfl⟩:=List.mem_map.mp hp'
  have:=hp x hx
  refine ⟨rfl,fun k hk=>?_⟩
  simp only [List.mem_cons,List.not_mem_nil,or_false] at hk
  omega
theorem Ur {n:Nat} {ls:List Ln} {ws:List Wk} {o:Option Sr} {hs:List (List Wt)} (G:Good n ls) (hw:ws.length<=3) (w:∀ w∈ws,WkS n w) (ho:∀ s,o=some s->s.p<n∧(1<=s.a∧s.a<=2)∧s.b<=s.a∧(1<=s.c∧s.c<=20)∧s.g<=s.c)
  (h3:hs.length<=3) (hh:∀ l∈hs,l.length<=3 ∧ ∀ t∈l,t.p<n∧t.s<=30∧t.w<=100):(QC n ls ws o hs).Ok:=by
 have n4:=G.n4
 have l6:=G.l
 refine ⟨by show n<1000;omega,fun l hl=>?_,by show (ls.map _).length<=10;rw [List.length_map];omega,fun w' hw'=>?_,by show (ws.map _).length<=10;rw [List.length_map];omega,fun s hs'=>?_,fun l hl=>?_,by show (hs.map _).length<=10;rw [List.length_map];omega⟩
 ·obtain ⟨x,hx,rfl⟩:=List.mem_map.mp hl
  have q:=G.o x hx
  have:=q.a;have:=q.b;have:=q.s;have:=q.m
  refine ⟨rfl,fun k hk=>?_⟩
  simp only [List.mem_cons,List.not_mem_nil,or_false] at hk
  omega
 ·obtain ⟨x,hx,rfl⟩:=List.mem_map.mp hw'
  exact Wf n4 (w x hx)
 ·cases o with
  | none=>cases hs'
  | some x=>
   obtain ⟨q1,q2,q3,q4,q5⟩:=ho x rfl
   have e:[x.p,x.a,x.b,x.c,x.g]=s:=Option.some.inj hs'
   subst e
   refine ⟨rfl,fun k hk=>?_⟩
   simp only [List.mem_cons,List.not_mem_nil,or_false] at hk
   omega
 ·obtain ⟨x,hx,rfl⟩:=List.mem_map.mp hl
  obtain ⟨q1,q2⟩:=hh x hx
  refine ⟨by rw [List.length_map];omega,fun t ht=>?_⟩
  obtain ⟨y,hy,rfl⟩:=List.mem_map.mp ht
  have:=q2 y hy
  refine ⟨rfl,fun k hk=>?_⟩
  simp only [List.mem_cons,List.not_mem_nil,or_false] at hk
  omega
theorem JL {x:Hq} (o:x.Ok):PyData.strOk x.T=true:=BP fun c hc=>by
 refine Nat.lt_of_not_le fun h=>?_
 refine rB CT (by omega) (fun t ht=>?_) hc
 obtain ⟨r,hr,rfl⟩:=List.mem_map.mp ht
 exact rB tX (by omega) (ul o (.inr (.inr h)) r hr)
noncomputable def Lw:bW:=(aC (bh 4 (aD 2 eY 0 [.nam 1]))
 (aC (bh 5 (sDo fK [.val (bN (di (.nam 3)) 1 [0,1] (gN 0) (cI) (aD 2 dR 1 [.nam 2]))]))
 (aC (bh 6 (aD 2 eN 0 [.nam 1]))
 (bR (gb [.val (aL 4),.val (aL 5),.val (aL 6),.val (sDo fK [.val (bN (di (.nam 2)) 1 [0,1] (gN 0) (cI) (aD 2 eO 1 [.nam 2]))])])))))
theorem Qv:cZ=fnS 1 6 true
 (aC (bh 1 (sDo bC [.val (sC (.int 1)),.val (aD 2 ao 0 [.val (sC (.int 4))])]))
 (aC (bh 2 (sDo bC [.val (sC (.int 1)),.val (aD 2 ao 0 [.val (sC (.int 3))])]))
 (aC (bh 3 (aD 2 ao 0 [.val (sC (.int 3))]))
 (aC (sIf (tB' (sDo dEq [.val (aD 2 ao 0 [.val (sC (.int 8))]),.val (sC (.int 0))]))
 (aC (bh 3 (sC (.int 3)))
 (bh 2 (sDo bC [.val (sC (.int 1)),.val (aD 2 ao 0 [.val (sC (.int 2))])])))
 (bJ)) Lw)))):=by unfold cZ Lw;with_reducible rfl
noncomputable def HqS (x:Hq):Prop:=x.Ok∧Hse x.D
theorem Lx {bag:D} {n w h:Nat} (hB:Bag bag) (hn1:1<=n) (hn4:n<=4) (hw:w<=3) (h1:1<=h) (h3:h<=3) {Q:D->Option D->Prop} (hQ:∀ (bag':D) (x:Hq),Bag bag'->HqS x->Q x.D (some bag')) :
  Lw [some bag,some (.int n),some (.int h),some (.int w),none,none,none] { nx:=fun ρ => Q .non (slot ρ 0),rt:=fun d ρ => Q d (slot ρ 0) }:=by
 have p62:(2:Int) ^ 62=4611686018427387904:=by decide
 have ew:(w:Int).toNat=w:=by omega
 have eh:(h:Int).toNat=h:=by omega
 dsimp? only [Lw]
 refine yW hB hn1 hn4 fun bag1 ls hB1 G=>?_
 dsimp? only [hB1.clean,uW,mL]
 rw [ew]
 refine aR ⟨by omega,by omega,by omega⟩ ?_
 (try dsimp? only)
 rw [Dz]
 refine mV (fun k:Nat=>D.int (k:Int)) (fun _ d=>∃ w:Wk,WkS n w∧d=w.d) (fun ρ => ∃ x d,ρ = [x,some d,some (.int (n:Int))]∧Bag d) ⟨_,_,rfl,hB1⟩ ?_ ?_
 ·rintro k _ ρ ⟨x,d,rfl,hd⟩ P hP
  dsimp? only
  refine wD hd (by omega) fun bag' w hB' hw=>?_
  dsimp? only [hB'.clean,Ph]
  exact hP _ _ ⟨w,hw,rfl⟩ ⟨_,_,rfl,hB'⟩
 rintro es ρ hl hE ⟨x,bag3,rfl,hB3⟩
 rw [List.length_range] at hl
 obtain ⟨ws,rfl,hws⟩:=wG Wk.d (P:=fun w=>WkS n w) (ds:=es) fun i d hd=>hE i i d (by rw [List.getElem?_range (by rw [← hl];exact (List.getElem?_eq_some_iff.mp hd).1)]) hd
 rw [List.length_map] at hl
 dsimp? only [hB3.clean,xV,mL]
 refine ut hB3 (by omega) fun bag4 o hB4 ho=>?_
 dsimp? only [hB4.clean,Pg,mL,xV,Qc]
 rw [eh]
 refine aR ⟨by omega,by omega,by omega⟩ ?_
 (try dsimp? only)
 rw [Dz]
 refine mV (fun k:Nat=>D.int (k:Int)) (fun _ d=>∃ l:List Wt,(l.length<=3 ∧ ∀ t∈l,t.p<n∧t.s<=30∧t.w<=100)∧d=hrD l) (fun ρ => ∃ x d,ρ = [x,some d,some (.int (n:Int))]∧Bag d) ⟨_,_,rfl,hB4⟩ ?_ ?_
 ·rintro k _ ρ ⟨x,d,rfl,hd⟩ P hP
  dsimp? only
  refine uv hd (by omega) fun bag' l hB' h1 h2=>?_
  dsimp? only [hB'.clean,Pb]
  exact hP _ _ ⟨l,⟨h1,h2⟩,rfl⟩ ⟨_,_,rfl,hB'⟩
 rintro es ρ hl2 hE2 ⟨x',bag6,rfl,hB6⟩
 rw [List.length_range] at hl2
 obtain ⟨hs,rfl,hhs⟩:=wG hrD (P:=fun l=>l.length<=3 ∧ ∀ t∈l,t.p<n∧t.s<=30∧t.w<=100) (ds:=es) fun i d hd=>hE2 i i d (by rw [List.getElem?_range (by rw [← hl2];exact (List.getElem?_eq_some_iff.mp hd).1)]) hd
 rw [List.length_map] at hl2
 dsimp? only [hB6.clean,Od,xV,Qc,mL]
 have fin:=hQ bag6 (QC n ls ws o hs) hB6 ⟨Ur G (by omega) hws ho (by omega) hhs,by rw [Pn];exact QD G (by omega) hws ho (by omega) (by omega) hhs⟩
 rw [Pn] at fin
 exact fin
theorem Hs {XT:bW} {bag:D} {Q:D->Option D->Prop}
  (hT:∀ {bag:D} {n w h:Nat},Bag bag->1<=n->n<=4->w<=3->1<=h->h<=3->XT [some bag,some (.int n),some (.int h),some (.int w),none,none,none] { nx:=fun ρ => Q .non (slot ρ 0),rt:=fun d ρ => Q d (slot ρ 0) })
  (hB:Bag bag):fnS 1 6 true
 (aC (bh 1 (sDo bC [.val (sC (.int 1)),.val (aD 2 ao 0 [.val (sC (.int 4))])]))
 (aC (bh 2 (sDo bC [.val (sC (.int 1)),.val (aD 2 ao 0 [.val (sC (.int 3))])]))
 (aC (bh 3 (aD 2 ao 0 [.val (sC (.int 3))]))
 (aC (sIf (tB' (sDo dEq [.val (aD 2 ao 0 [.val (sC (.int 8))]),.val (sC (.int 0))]))
 (aC (bh 3 (sC (.int 3)))
 (bh 2 (sDo bC [.val (sC (.int 1)),.val (aD 2 ao 0 [.val (sC (.int 2))])])))
 (bJ)) XT)))) [bag] Q:=by
 dsimp? only
 refine aV hB (by decide) fun bag1 r1 hB1 h1=>?_
 have e1:(1:Int)+(r1:Int)=((1+r1:Nat):Int):=by omega
 dsimp? only [hB1.clean,e1]
 refine aV hB1 (by decide) fun bag2 r2 hB2 h2=>?_
 have e2:(1:Int)+(r2:Int)=((1+r2:Nat):Int):=by omega
 dsimp? only [hB2.clean,e2]
 refine aV hB2 (by decide) fun bag3 r3 hB3 h3=>?_
 dsimp? only [hB3.clean]
 refine aV hB3 (by decide) fun bag4 r4 hB4 h4=>?_
 dsimp? only [hB4.clean]
 refine qb (fun hc=>?_) fun hc=>?_
 ·dsimp? only [hB4.clean]
  refine aV hB4 (by decide) fun bag5 r5 hB5 h5=>?_
  have e5:(1:Int)+(r5:Int)=((1+r5:Nat):Int):=by omega
  dsimp? only [hB5.clean,e5]
  exact hT (w:=3) hB5 (by omega) (by omega) (by omega) (by omega) (by omega)
 ·(try dsimp? only)
  exact hT hB4 (by omega) (by omega) (by omega) (by omega) (by omega)
theorem ur {bag:D} (hB:Bag bag) {Q:D->Option D->Prop} (h:∀ (bag':D) (x:Hq),Bag bag'->HqS x->Q x.D (some bag')):cZ [bag] Q:=by
 rw [Qv]
 exact Hs (fun h1 h2 h3 h4 h5 h6=>Lx h1 h2 h3 h4 h5 h6 h) hB
theorem Dh {n:Nat}:∀ {ds:List D},(∀ d∈ds,Ok n d)->Oks n ds
 | [],_=>Dj n
 | d :: ds,h=>zz (h d (List.mem_cons_self ..)) (Dh fun d hd=>h d (List.mem_cons_of_mem _ hd))
theorem Pz {m:Nat} {d:D} (h:Pl m d):Ok m d:=by
 induction h with
 | non m=>exact ⟨by simp [D.dat,PyData.canLay0],by simp [D.dat,PyData.depth]⟩
 | int m i=>exact Rx m i
 | bl m b=>exact ⟨by simp [D.dat,PyData.canLay0],by simp [D.dat,PyData.depth]⟩
 | tup m ds hl hd ih=>exact RB (Dh ih)
theorem HQ {XA XB:bW} (ns:List Int) (hns:ns.length<=63)
  (hA:∀ {x:Hq} {x0 x1 x4 x5:Option D} {E:EndD},HqS x->E.nx [x0,x1,some x.D,some (.str x.T),x4,x5]->XA [x0,x1,some x.D,some (.str x.T),x4,x5] E)
  (hX:∀ {x:Hq} {x0 x1 x4 x5:Option D} {E:EndD},HqS x->(∀ y,E.nx [x0,x1,some x.D,some (.str x.T),x4,y])->XB [x0,x1,some x.D,some (.str x.T),x4,x5] E):fnS 1 5 false
 (aC (iB (di (.val (sDo Ep [.val (sC (.int 1)),.val (sDo yC [.val (sC (.int 3)),.val (sDo jY [.nam 0])])]))) (gN 1)
 (qL [2,3] (aC (bh 2 (qp 1 cZ [.val (aM 2 iR [.nam 0,.nam 1])]))
 (aC (bh 3 (aM 1 dN [.nam 2]))
 (aC XA
 (iB (di (.val (sC (.int 2)))) (gN 4) XB))))))
 (bR (sC (.bl true)))) [.scr ns] fun r _=>r = .bl true:=by
 have p62:(2:Int) ^ 62=4611686018427387904:=by decide
 dsimp? only
 refine aR ?_ ?_
 ·split <;> split <;> omega
 (try dsimp? only)
 refine jj (fun k ρ => ∃ x1 x2 x3 x4 x5,ρ = [some (.scr ns),x1,x2,x3,x4,x5]) 0 ⟨_,_,_,_,_,rfl⟩ ?_ ?_
 ·rintro k d ρ hd ⟨x1,x2,x3,x4,x5,rfl⟩ P hP
  obtain ⟨hk,rfl⟩:=mF hd
  have hk2:k<=100:=by revert hk;split <;> split <;> omega
  dsimp? only [↓Hh,Int.zero_add]
  refine Be hk2 hns fun bag1 hB1=>?_
  dsimp? only [Af,yd,List.tail_cons,hB1.clean,Int.zero_add]
  refine ur hB1 fun bag2 x hB2 hx=>?_
  have shx:=tU x
  have fzx:x.D.fz=x.D:=D.sh_fz _ shx
  have clx:=hx.2.c
  dsimp? only [hB2.clean,clx,fzx]
  refine uN hx.1 ?_
  dsimp? only [shx]
  refine hA hx ?_
  dsimp? only [p62]
  refine aR (by decide) ?_
  (try dsimp? only)
  refine jj (fun i ρ => ∃ x0 x1 x4 x5,ρ = [x0,x1,some x.D,some (.str x.T),x4,x5]∧x0=some (.scr ns)) 0 ⟨_,_,_,_,rfl,rfl⟩ ?_ ?_
  ·rintro i d ρ hd ⟨x0,x1,x4,x5,rfl,e0⟩ P hP
   (try dsimp? only)
   exact hX hx fun y=>hP _ ⟨_,_,_,_,rfl,e0⟩
  ·rintro ρ ⟨x0,x1,x4,x5,rfl,rfl⟩
   (try dsimp? only)
   exact hP _ ⟨_,_,_,_,_,rfl⟩
 ·rintro ρ ⟨x1,x2,x3,x4,x5,rfl⟩
  dsimp? only
noncomputable def Mi:bW:=(sIf (jr (cP (eQ (.val (sDo eX [.nam 3,.val (sC (.ty "str"))])))) (tB' (sDo dNe [.nam 3,.val (aM 1 fQ [.nam 2])])))
 (bR (sC (.bl false)))
 (bJ))
theorem Mj {x:Hq} {x0 x1 x4 x5:Option D} {E:EndD} (hx:HqS x) (h:E.nx [x0,x1,some x.D,some (.str x.T),x4,x5]):Mi [x0,x1,some x.D,some (.str x.T),x4,x5] E:=by
 have shx:=tU x
 have fzx:x.D.fz=x.D:=D.sh_fz _ shx
 have is:eX [.str x.T,.ty "str"]=some (.bl true):=by unfold eX;rfl
 have so:=JL hx.1
 have ne:dNe [.str x.T,.str x.T]=some (.bl false):=by rw [Ck so so];simp
 dsimp? only [Mi,is,fzx]
 refine yZ hx.1 ?_
 dsimp? only [ne,shx]
 exact h
noncomputable def Ml:bW:=(sIf (tB' (sDo dNe [.val (bN (cM (cY 5 (.val (sC (.int 1))))) 1 [] (gN 0) (cI) (sDo eX [.val (cY 0 (.val (sC (.int 7)))),.val (sC (.ty "bool"))])),.val (bN (cM (cY 2 (.val (sC (.int 1))))) 1 [] (gN 0) (cI) (sC (.bl true)))]))
 (bR (sC (.bl false)))
 (bJ))
theorem Mm {x:Hq} {x0 x1 x4:Option D} {E:EndD} (hx:HqS x) (h:E.nx [x0,x1,some x.D,some (.str x.T),x4,some x.D]):Ml [x0,x1,some x.D,some (.str x.T),x4,some x.D] E:=by
 have shx:=tU x
 have shw:D.shs (x.ws.map Wq.D)=true:=aP Wq.D nP _
 have fzw:D.fzs (x.ws.map Wq.D)=x.ws.map Wq.D:=D.shs_fz _ shw
 have ix:ixF x.D 1=some (.tup (x.ws.map Wq.D),none):=by unfold Hq.D;exact cu _ rfl shw
 have b2:=hx.1.wl
 have ne:dNe [.lst true (x.ws.map fun _=>D.bl true),.lst true (x.ws.map fun _=>D.bl true)]=some (.bl false):=yD (n:=1) (Rz (Di (fun _=>D.bl true) (fun _=>Pz (.bl 0 true)) x.ws)) (by decide) rfl
 unfold Ml
 dsimp? only [ix,shw,fzw,shx,List.length_map]
 refine aR (by omega) ?_
 (try dsimp? only)
 refine bK Wq.D (fun _=>D.bl true) (fun ρ => ∃ y,ρ = [y]) ⟨_,rfl⟩ ?_ ?_
 ·rintro w hm ρ ⟨y,rfl⟩ P hP
  have i7:ixF w.D 7=some (.bl w.w,none):=by unfold Wq.D wkD;exact cu _ rfl rfl
  have ib:eX [.bl w.w,.ty "bool"]=some (.bl true):=by unfold eX;rfl
  dsimp? only [i7,ib]
  exact hP _ ⟨_,rfl⟩
 rintro ρ ⟨y,rfl⟩
 dsimp? only [ix,shw,fzw,shx,List.length_map]
 refine aR (by omega) ?_
 (try dsimp? only)
 refine bK Wq.D (fun _=>D.bl true) (fun ρ => ∃ y,ρ = [y]) ⟨_,rfl⟩ ?_ ?_
 ·rintro w hm ρ ⟨y,rfl⟩ P hP
  dsimp? only
  exact hP _ ⟨_,rfl⟩
 rintro ρ ⟨y,rfl⟩
 dsimp? only [ne]
 exact h
theorem Fe {XC:bW} {x:Hq} {x0 x1 x4 x5:Option D} {E:EndD} (hx:HqS x) (hC:∀ {x0 x1 x4:Option D} {E:EndD},E.nx [x0,x1,some x.D,some (.str x.T),x4,some x.D]->XC [x0,x1,some x.D,some (.str x.T),x4,some x.D] E) (h:∀ y,E.nx [x0,x1,some x.D,some (.str x.T),x4,y]) :
  (qL [5] (aC (bh 5 (aM 1 dM [.nam 3]))
 (aC (sIf (jr (tB' (sDo dNe [.nam 5,.nam 2])) (cP (eQ (.val (aM 1 (bB 8) [.nam 5])))))
 (bR (sC (.bl false)))
 (bJ)) XC))) [x0,x1,some x.D,some (.str x.T),x4,x5] E:=by
 have shx:=tU x
 have fzx:x.D.fz=x.D:=D.sh_fz _ shx
 have clx:=hx.2.c
 have ne:dNe [x.D,x.D]=some (.bl false):=yD (Pz (PB hx.1)) (by decide) rfl
 have hH:∀ {Q:D->Option D->Prop},Q (.bl true) none->gF [x.D] Q:=fun q=>EY hx.2.t (by rw [hx.2.b];exact q)
 dsimp? only
 refine uI hx.1 hH ?_
 dsimp? only [ne,shx,fzx,clx]
 refine Jd (PB hx.1) ?_
 dsimp? only [shx]
 exact hC (h _)
theorem qT:∀ ns:List Int,ns.length<=63->jD [.scr ns] fun r _=>r = .bl true:=by
 intro ns hns
 have es:jD=fnS 1 5 false (aC (iB (di (.val (sDo Ep [.val (sC (.int 1)),.val (sDo yC [.val (sC (.int 3)),.val (sDo jY [.nam 0])])]))) (gN 1) (qL [2,3] (aC (bh 2 (qp 1 cZ [.val (aM 2 iR [.nam 0,.nam 1])])) (aC (bh 3 (aM 1 dN [.nam 2])) (aC Mi (iB (di (.val (sC (.int 2)))) (gN 4)
  (qL [5] (aC (bh 5 (aM 1 dM [.nam 3])) (aC (sIf (jr (tB' (sDo dNe [.nam 5,.nam 2])) (cP (eQ (.val (aM 1 (bB 8) [.nam 5]))))) (bR (sC (.bl false))) (bJ)) Ml)))))))))  (bR (sC (.bl true)))):=by unfold jD Mi Ml;with_reducible rfl
 rw [es]
 exact HQ ns hns Mj fun hx h=>Fe hx (Mm hx) h
end Z
namespace K70
open PySem L2 Z
section
variable {P:Program} {w:World} {K:PySem.W.Frag} {mg:Str->Option Value} {base:Heap}
theorem oA:FnScope ["thing"] ["thing"] (aF (top 5)):=⟨rfl,rfl,rfl,by decide +kernel,rfl,by decide +kernel,by decide +kernel⟩
theorem nW (T:Known K mg "is_whole_number" (top 5) ["thing"]) (ht:P.given.tree=none) (n_bool:mg "bool" = none) (n_int:mg "int" = none) (n_isinstance:mg "isinstance" = none):Prm P w K mg base "is_whole_number" 35 ["thing"] (aW K 1 false cz):=by
 refine T.sem oA ht ?_
 rintro _ cdv f A outer s H E rfl hc
 exact aG (aU (iV (bA ig ir rfl n_isinstance cQ (aj (sn 0) (aj (aa (pI rfl n_int pQ)) ak))) (gC (SQ (bA ig ir rfl n_isinstance cQ (aj (sn 0) (aj (aa (pI rfl n_bool vQ)) ak)))))))
theorem xK:FnScope ["thing", "low", "high"] ["thing", "low", "high"] (aF (top 6)):=⟨rfl,rfl,rfl,by decide +kernel,rfl,by decide +kernel,by decide +kernel⟩
theorem wQ (T:Known K mg "is_within" (top 6) ["thing", "low", "high"]) (ht:P.given.tree=none) (G_is_whole_number:Prm P w K mg base "is_whole_number" 35 ["thing"] (aW K 1 false cz)):Prm P w K mg base "is_within" 36 ["thing", "low", "high"] (aW K 3 false aK):=by
 refine T.sem xK ht ?_
 rintro _ cdv f A outer s H E rfl hc
 exact aG (aU (iV (bu G_is_whole_number (hc.room.mono (by decide)) rfl (aj (sn 0) ak)) (gC (zW zB zB oV oV (sn 1) (sn 0) (sn 2)))))
theorem Gd:FnScope ["thing", "least", "most"] ["thing", "least", "most"] (aF (top 7)):=⟨rfl,rfl,rfl,by decide +kernel,rfl,by decide +kernel,by decide +kernel⟩
theorem Fv (T:Known K mg "is_row" (top 7) ["thing", "least", "most"]) (ht:P.given.tree=none) (n_isinstance:mg "isinstance" = none) (n_len:mg "len" = none) (n_tuple:mg "tuple" = none):Prm P w K mg base "is_row" 35 ["thing", "least", "most"] (aW K 3 false bF):=by
 refine T.sem Gd ht ?_
 rintro _ cdv f A outer s H E rfl hc
 exact aG (aU (iV (bA ig ir rfl n_isinstance cQ (aj (sn 0) (aj (aa (pI rfl n_tuple eF)) ak))) (gC (zW zB zB oV oV (sn 1) (aa (bA dH iw rfl n_len lL (aj (sn 0) ak))) (sn 2)))))
theorem jQ:FnScope ["thing", "many", "one", "other", "stiffness", "most"] ["thing", "many"] (aF (top 9)):=⟨rfl,rfl,rfl,by decide +kernel,rfl,by decide +kernel,by decide +kernel⟩
theorem Bl (T:Known K mg "is_line" (top 9) ["thing", "many"]) (ht:P.given.tree=none) (G_is_row:Prm P w K mg base "is_row" 35 ["thing", "least", "most"] (aW K 3 false bF)) (G_is_within:Prm P w K mg base "is_within" 36 ["thing", "low", "high"] (aW K 3 false aK)):Prm P w K mg base "is_line" 37 ["thing", "many"] (aW K 2 false iT):=by
 refine T.sem jQ ht ?_
 rintro _ cdv f A outer s H E rfl hc
 exact au (cO (cC (bZ (aa (bu G_is_row (hc.room.mono (by decide)) rfl (aj (sn 0) (aj (aa (aq)) (aj (aa (aq)) ak)))))))
   (aG (aU (gj)))
   (bT))
   (au (jR (sv 0) (gH hc.calm (aB (az (i:=2) rfl jQ.nd rfl (by first | exact .inl rfl | exact .inr rfl)) (aB (az (i:=3) rfl jQ.nd rfl (by first | exact .inl rfl | exact .inr rfl)) (aB (az (i:=4) rfl jQ.nd rfl (by first | exact .inl rfl | exact .inr rfl)) (aB (az (i:=5) rfl jQ.nd rfl (by first | exact .inl rfl | exact .inr rfl)) fD)))) (goN [2,3,4,5])))
   (au (cO (SW.b (iJ (cC (bZ (aa (bu G_is_within (hc.room.mono (by decide)) rfl (aj (sn 2) (aj (aa (aq)) (aj (aa (aN nY jH (sn 1) (aa (aq)))) ak))))))) (iJ (cC (bZ (aa (bu G_is_within (hc.room.mono (by decide)) rfl (aj (sn 3) (aj (aa (aq)) (aj (aa (aN nY jH (sn 1) (aa (aq)))) ak))))))) (gJ (dm (jN hc.room.units) il (sn 2) (sn 3) (cB _))))))
   (aG (aU (gj)))
   (bT))
   (aG (aU (iV (bu G_is_within (hc.room.mono (by decide)) rfl (aj (sn 4) (aj (aa (aq)) (aj (aa (aq)) ak)))) (gC (bu G_is_within (hc.room.mono (by decide)) rfl (aj (sn 5) (aj (aa (aq)) (aj (aa (aq)) ak))))))))))
theorem cT:FnScope ["many", "lines", "groups", "one", "other", "stiffness", "most", "kept", "gone"] ["many", "lines"] (aF (top 10)):=⟨rfl,rfl,rfl,by decide +kernel,rfl,by decide +kernel,by decide +kernel⟩
theorem uC (T:Known K mg "are_joined" (top 10) ["many", "lines"]) (ht:P.given.tree=none) (n_len:mg "len" = none) (n_list:mg "list" = none) (n_range:mg "range" = none) (n_set:mg "set" = none):Prm P w K mg base "are_joined" 35 ["many", "lines"] (aW K 2 false iD):=by
 refine T.sem cT ht ?_
 rintro _ cdv f A outer s H E rfl hc
 exact au (bz (i:=2) rfl cT.nd rfl (by first | exact .inl rfl | exact .inr rfl) (xO hc.calm rfl n_list rfl n_range (aj (sn 0) ak)))
   (au (jT PassesOwn.never hc.calm (cD (sv 1)) (gH hc.calm (aB (az (i:=3) rfl cT.nd rfl (by first | exact .inl rfl | exact .inr rfl)) (aB (az (i:=4) rfl cT.nd rfl (by first | exact .inl rfl | exact .inr rfl)) (aB (az (i:=5) rfl cT.nd rfl (by first | exact .inl rfl | exact .inr rfl)) (aB (az (i:=6) rfl cT.nd rfl (by first | exact .inl rfl | exact .inr rfl)) fD)))) (goN [3,4,5,6]))
   (au (jR (iI (aj (aa (cH (sn 2) (sn 3) (fun _ _=>rfl))) (aj (aa (cH (sn 2) (sn 4) (fun _ _=>rfl))) ak))) (gH hc.calm (aB (az (i:=7) rfl cT.nd rfl (by first | exact .inl rfl | exact .inr rfl)) (aB (az (i:=8) rfl cT.nd rfl (by first | exact .inl rfl | exact .inr rfl)) fD)) (goN [7,8])))
   (aG (Oi (i:=2) (own:=["group"]) (fr:=[7,8]) rfl cT.nd rfl (by first | exact .inl rfl | exact .inr rfl) hc.calm (cD (sv 2)) (CScope.of (by rfl)) (by decide) (fun _ _ _ _ _=>(az (i:=0) rfl (cX (by rfl)) rfl (by first | exact .inl rfl | exact .inr rfl))) (fun _ _ _ _ _=>bQ) (fun _ _ _ _ _=>(Jy (dm (jN hc.room.units) il (sn 0) (sn 2) (cB _)) (sv 1) (sv 0)))))))
   (aG (aU (kY (jN hc.room.units) il (aa (Gh hc.calm rfl n_len rfl n_set (aj (sn 2) ak))) (aa (aq)) (cB _)))))
theorem qu:FnScope ["thing", "many", "lines"] ["thing"] (aF (top 11)):=⟨rfl,rfl,rfl,by decide +kernel,rfl,by decide +kernel,by decide +kernel⟩
theorem Ft (T:Known K mg "is_net" (top 11) ["thing"]) (ht:P.given.tree=none) (n_all:mg "all" = none) (G_is_row:Prm P w K mg base "is_row" 35 ["thing", "least", "most"] (aW K 3 false bF)) (G_is_within:Prm P w K mg base "is_within" 36 ["thing", "low", "high"] (aW K 3 false aK)) (G_is_line:Prm P w K mg base "is_line" 37 ["thing", "many"] (aW K 2 false iT)) (G_are_joined:Prm P w K mg base "are_joined" 35 ["many", "lines"] (aW K 2 false iD)):Prm P w K mg base "is_net" 38 ["thing"] (aW K 1 false mH):=by
 refine T.sem qu ht ?_
 rintro _ cdv f A outer s H E rfl hc
 exact au (cO (cC (bZ (aa (bu G_is_row (hc.room.mono (by decide)) rfl (aj (sn 0) (aj (aa (aq)) (aj (aa (aq)) ak)))))))
   (aG (aU (gj)))
   (bT))
   (au (jR (sv 0) (gH hc.calm (aB (az (i:=1) rfl qu.nd rfl (by first | exact .inl rfl | exact .inr rfl)) (aB (az (i:=2) rfl qu.nd rfl (by first | exact .inl rfl | exact .inr rfl)) fD)) (goN [1,2])))
   (au (cO (SW.b (iJ (cC (bZ (aa (bu G_is_within (hc.room.mono (by decide)) rfl (aj (sn 1) (aj (aa (aq)) (aj (aa (aq)) ak))))))) (gJ (cC (bZ (aa (bu G_is_row (hc.room.mono (by decide)) rfl (aj (sn 2) (aj (aa (aq)) (aj (aa (aq)) ak))))))))))
   (aG (aU (gj)))
   (bT))
   (aG (aU (iV (bA (jh hc.calm) ji rfl n_all mq (aj (aa (bU (own:=["line"]) (fr:=[1]) hc.calm (cD (sv 2)) (CScope.of (by rfl)) (by decide) (fun _ _ _ _ _=>(az (i:=0) rfl (cX (by rfl)) rfl (by first | exact .inl rfl | exact .inr rfl))) (fun _ _ _ _ _=>bQ) (fun _ _ _ _ _=>(bu G_is_line (hc.room.mono (by decide)) rfl (aj (sn 0) (aj (sn 1) ak)))))) ak)) (gC (bu G_are_joined (hc.room.mono (by decide)) rfl (aj (sn 1) (aj (sn 2) ak)))))))))
theorem zU:FnScope ["thing"] ["thing"] (aF (top 13)):=⟨rfl,rfl,rfl,by decide +kernel,rfl,by decide +kernel,by decide +kernel⟩
theorem zu (T:Known K mg "is_piece" (top 13) ["thing"]) (ht:P.given.tree=none) (G_is_row:Prm P w K mg base "is_row" 35 ["thing", "least", "most"] (aW K 3 false bF)) (G_is_within:Prm P w K mg base "is_within" 36 ["thing", "low", "high"] (aW K 3 false aK)):Prm P w K mg base "is_piece" 37 ["thing"] (aW K 1 false jO):=by
 refine T.sem zU ht ?_
 rintro _ cdv f A outer s H E rfl hc
 exact aG (aU (iV (bu G_is_row (hc.room.mono (by decide)) rfl (aj (sn 0) (aj (aa (aq)) (aj (aa (aq)) ak)))) (iV (bu G_is_within (hc.room.mono (by decide)) rfl (aj (aa (cH (sn 0) (aa (aq)) (fun _ _=>rfl))) (aj (aa (aq)) (aj (aa (aq)) ak)))) (gC (bu G_is_within (hc.room.mono (by decide)) rfl (aj (aa (cH (sn 0) (aa (aq)) (fun _ _=>rfl))) (aj (aa (aq)) (aj (aa (aq)) ak))))))))
theorem uK:FnScope ["thing"] ["thing"] (aF (top 14)):=⟨rfl,rfl,rfl,by decide +kernel,rfl,by decide +kernel,by decide +kernel⟩
theorem uD (T:Known K mg "are_pieces" (top 14) ["thing"]) (ht:P.given.tree=none) (n_all:mg "all" = none) (G_is_row:Prm P w K mg base "is_row" 35 ["thing", "least", "most"] (aW K 3 false bF)) (G_is_piece:Prm P w K mg base "is_piece" 37 ["thing"] (aW K 1 false jO)):Prm P w K mg base "are_pieces" 38 ["thing"] (aW K 1 false iG):=by
 refine T.sem uK ht ?_
 rintro _ cdv f A outer s H E rfl hc
 exact au (cO (SW.b (iJ (cC (bZ (aa (bu G_is_row (hc.room.mono (by decide)) rfl (aj (sn 0) (aj (aa (aq)) (aj (aa (aq)) ak))))))) (gJ (cC (bZ (aa (bA (jh hc.calm) ji rfl n_all mq (aj (aa (bU (own:=["piece"]) (fr:=[]) hc.calm (cD (sv 0)) (CScope.of (by rfl)) (by decide) (fun _ _ _ _ _=>(az (i:=0) rfl (cX (by rfl)) rfl (by first | exact .inl rfl | exact .inr rfl))) (fun _ _ _ _ _=>bQ) (fun _ _ _ _ _=>(bu G_is_piece (hc.room.mono (by decide)) rfl (aj (sn 0) ak))))) ak))))))))
   (aG (aU (gj)))
   (bT))
   (aG (aU (kY zB oV (aa (fB jM iu (aa (cH (sn 0) (aa (aq)) (fun _ _=>rfl))) (aa (aq)) (fun _ _=>rfl))) (aa (fB jM iu (aa (cH (sn 0) (aa (Vs Tw Hb (aa (aq)))) (fun _ _=>rfl))) (aa (aq)) (fun _ _=>rfl))) (cB _))))
theorem fj:FnScope ["thing", "many", "place", "least", "keep", "pieces", "start", "stay", "rest", "was"] ["thing", "many"] (aF (top 15)):=⟨rfl,rfl,rfl,by decide +kernel,rfl,by decide +kernel,by decide +kernel⟩
theorem Bo (T:Known K mg "is_work" (top 15) ["thing", "many"]) (ht:P.given.tree=none) (n_bool:mg "bool" = none) (n_isinstance:mg "isinstance" = none) (G_is_row:Prm P w K mg base "is_row" 35 ["thing", "least", "most"] (aW K 3 false bF)) (G_is_within:Prm P w K mg base "is_within" 36 ["thing", "low", "high"] (aW K 3 false aK)) (G_are_pieces:Prm P w K mg base "are_pieces" 38 ["thing"] (aW K 1 false iG)):Prm P w K mg base "is_work" 39 ["thing", "many"] (aW K 2 false lE):=by
 refine T.sem fj ht ?_
 rintro _ cdv f A outer s H E rfl hc
 exact au (cO (cC (bZ (aa (bu G_is_row (hc.room.mono (by decide)) rfl (aj (sn 0) (aj (aa (aq)) (aj (aa (aq)) ak)))))))
   (aG (aU (gj)))
   (bT))
   (au (jR (sv 0) (gH hc.calm (aB (az (i:=2) rfl fj.nd rfl (by first | exact .inl rfl | exact .inr rfl)) (aB (az (i:=3) rfl fj.nd rfl (by first | exact .inl rfl | exact .inr rfl)) (aB (az (i:=4) rfl fj.nd rfl (by first | exact .inl rfl | exact .inr rfl)) (aB (az (i:=5) rfl fj.nd rfl (by first | exact .inl rfl | exact .inr rfl)) (aB (az (i:=6) rfl fj.nd rfl (by first | exact .inl rfl | exact .inr rfl)) (aB (az (i:=7) rfl fj.nd rfl (by first | exact .inl rfl | exact .inr rfl)) (aB (az (i:=8) rfl fj.nd rfl (by first | exact .inl rfl | exact .inr rfl)) (aB (az (i:=9) rfl fj.nd rfl (by first | exact .inl rfl | exact .inr rfl)) fD)))))))) (goN [2,3,4,5,6,7,8,9])))
   (au (cO (SW.b (iJ (cC (bZ (aa (bu G_is_within (hc.room.mono (by decide)) rfl (aj (sn 2) (aj (aa (aq)) (aj (aa (aN nY jH (sn 1) (aa (aq)))) ak))))))) (iJ (cC (bZ (aa (bu G_is_within (hc.room.mono (by decide)) rfl (aj (sn 3) (aj (aa (aq)) (aj (aa (aq)) ak))))))) (gJ (cC (bZ (aa (bu G_is_within (hc.room.mono (by decide)) rfl (aj (sn 4) (aj (aa (aq)) (aj (aa (aq)) ak)))))))))))
   (aG (aU (gj)))
   (bT))
   (au (cO (SW.b (iJ (cC (bZ (aa (bu G_are_pieces (hc.room.mono (by decide)) rfl (aj (sn 5) ak))))) (gJ (cC (bZ (aa (bu G_is_within (hc.room.mono (by decide)) rfl (aj (sn 6) (aj (aa (aq)) (aj (aa (aq)) ak))))))))))
   (aG (aU (gj)))
   (bT))
   (aG (aU (iV (bu G_is_within (hc.room.mono (by decide)) rfl (aj (sn 7) (aj (aa (aq)) (aj (aa (aq)) ak)))) (iV (bu G_is_within (hc.room.mono (by decide)) rfl (aj (sn 8) (aj (aa (aq)) (aj (aa (aq)) ak)))) (gC (bA ig ir rfl n_isinstance cQ (aj (sn 9) (aj (aa (pI rfl n_bool vQ)) ak)))))))))))
theorem ie:FnScope ["thing", "many", "place", "top", "level", "taken", "given"] ["thing", "many"] (aF (top 16)):=⟨rfl,rfl,rfl,by decide +kernel,rfl,by decide +kernel,by decide +kernel⟩
theorem zx (T:Known K mg "is_store" (top 16) ["thing", "many"]) (ht:P.given.tree=none) (G_is_row:Prm P w K mg base "is_row" 35 ["thing", "least", "most"] (aW K 3 false bF)) (G_is_within:Prm P w K mg base "is_within" 36 ["thing", "low", "high"] (aW K 3 false aK)):Prm P w K mg base "is_store" 37 ["thing", "many"] (aW K 2 false iU):=by
 refine T.sem ie ht ?_
 rintro _ cdv f A outer s H E rfl hc
 exact au (cO (dm Br su (sn 0) (aa (mJ)) (cB _))
   (aG (aU (gj)))
   (bT))
   (au (cO (cC (bZ (aa (bu G_is_row (hc.room.mono (by decide)) rfl (aj (sn 0) (aj (aa (aq)) (aj (aa (aq)) ak)))))))
   (aG (aU (gj)))
   (bT))
   (au (jR (sv 0) (gH hc.calm (aB (az (i:=2) rfl ie.nd rfl (by first | exact .inl rfl | exact .inr rfl)) (aB (az (i:=3) rfl ie.nd rfl (by first | exact .inl rfl | exact .inr rfl)) (aB (az (i:=4) rfl ie.nd rfl (by first | exact .inl rfl | exact .inr rfl)) (aB (az (i:=5) rfl ie.nd rfl (by first | exact .inl rfl | exact .inr rfl)) (aB (az (i:=6) rfl ie.nd rfl (by first | exact .inl rfl | exact .inr rfl)) fD))))) (goN [2,3,4,5,6])))
   (au (cO (SW.b (iJ (cC (bZ (aa (bu G_is_within (hc.room.mono (by decide)) rfl (aj (sn 2) (aj (aa (aq)) (aj (aa (aN nY jH (sn 1) (aa (aq)))) ak))))))) (iJ (cC (bZ (aa (bu G_is_within (hc.room.mono (by decide)) rfl (aj (sn 3) (aj (aa (aq)) (aj (aa (aq)) ak))))))) (gJ (cC (bZ (aa (bu G_is_within (hc.room.mono (by decide)) rfl (aj (sn 4) (aj (aa (aq)) (aj (sn 3) ak)))))))))))
   (aG (aU (gj)))
   (bT))
   (aG (aU (iV (bu G_is_within (hc.room.mono (by decide)) rfl (aj (sn 5) (aj (aa (aq)) (aj (aa (aq)) ak)))) (gC (bu G_is_within (hc.room.mono (by decide)) rfl (aj (sn 6) (aj (aa (aq)) (aj (sn 5) ak)))))))))))
theorem lU:FnScope ["thing", "many", "place", "size", "worth"] ["thing", "many"] (aF (top 17)):=⟨rfl,rfl,rfl,by decide +kernel,rfl,by decide +kernel,by decide +kernel⟩
theorem Bm (T:Known K mg "is_want" (top 17) ["thing", "many"]) (ht:P.given.tree=none) (G_is_row:Prm P w K mg base "is_row" 35 ["thing", "least", "most"] (aW K 3 false bF)) (G_is_within:Prm P w K mg base "is_within" 36 ["thing", "low", "high"] (aW K 3 false aK)):Prm P w K mg base "is_want" 37 ["thing", "many"] (aW K 2 false lD):=by
 refine T.sem lU ht ?_
 rintro _ cdv f A outer s H E rfl hc
 exact au (cO (cC (bZ (aa (bu G_is_row (hc.room.mono (by decide)) rfl (aj (sn 0) (aj (aa (aq)) (aj (aa (aq)) ak)))))))
   (aG (aU (gj)))
   (bT))
   (au (jR (sv 0) (gH hc.calm (aB (az (i:=2) rfl lU.nd rfl (by first | exact .inl rfl | exact .inr rfl)) (aB (az (i:=3) rfl lU.nd rfl (by first | exact .inl rfl | exact .inr rfl)) (aB (az (i:=4) rfl lU.nd rfl (by first | exact .inl rfl | exact .inr rfl)) fD))) (goN [2,3,4])))
   (aG (aU (iV (bu G_is_within (hc.room.mono (by decide)) rfl (aj (sn 2) (aj (aa (aq)) (aj (aa (aN nY jH (sn 1) (aa (aq)))) ak)))) (iV (bu G_is_within (hc.room.mono (by decide)) rfl (aj (sn 3) (aj (aa (aq)) (aj (aa (aq)) ak)))) (gC (bu G_is_within (hc.room.mono (by decide)) rfl (aj (sn 4) (aj (aa (aq)) (aj (aa (aq)) ak))))))))))
theorem xH:FnScope ["thing", "many"] ["thing", "many"] (aF (top 18)):=⟨rfl,rfl,rfl,by decide +kernel,rfl,by decide +kernel,by decide +kernel⟩
theorem wN (T:Known K mg "are_wants" (top 18) ["thing", "many"]) (ht:P.given.tree=none) (n_all:mg "all" = none) (G_is_row:Prm P w K mg base "is_row" 35 ["thing", "least", "most"] (aW K 3 false bF)) (G_is_want:Prm P w K mg base "is_want" 37 ["thing", "many"] (aW K 2 false lD)):Prm P w K mg base "are_wants" 38 ["thing", "many"] (aW K 2 false jm):=by
 refine T.sem xH ht ?_
 rintro _ cdv f A outer s H E rfl hc
 exact aG (aU (iV (bu G_is_row (hc.room.mono (by decide)) rfl (aj (sn 0) (aj (aa (aq)) (aj (aa (aq)) ak)))) (gC (bA (jh hc.calm) ji rfl n_all mq (aj (aa (bU (own:=["want"]) (fr:=[1]) hc.calm (cD (sv 0)) (CScope.of (by rfl)) (by decide) (fun _ _ _ _ _=>(az (i:=0) rfl (cX (by rfl)) rfl (by first | exact .inl rfl | exact .inr rfl))) (fun _ _ _ _ _=>bQ) (fun _ _ _ _ _=>(bu G_is_want (hc.room.mono (by decide)) rfl (aj (sn 0) (aj (sn 1) ak)))))) ak)))))
theorem gZ:FnScope ["thing", "net", "works", "store", "hours", "many"] ["thing"] (aF (top 19)):=⟨rfl,rfl,rfl,by decide +kernel,rfl,by decide +kernel,by decide +kernel⟩
theorem zr (T:Known K mg "is_house" (top 19) ["thing"]) (ht:P.given.tree=none) (n_all:mg "all" = none) (G_is_row:Prm P w K mg base "is_row" 35 ["thing", "least", "most"] (aW K 3 false bF)) (G_is_net:Prm P w K mg base "is_net" 38 ["thing"] (aW K 1 false mH)) (G_is_work:Prm P w K mg base "is_work" 39 ["thing", "many"] (aW K 2 false lE)) (G_is_store:Prm P w K mg base "is_store" 37 ["thing", "many"] (aW K 2 false iU)) (G_are_wants:Prm P w K mg base "are_wants" 38 ["thing", "many"] (aW K 2 false jm)):Prm P w K mg base "is_house" 40 ["thing"] (aW K 1 false gF):=by
 refine T.sem gZ ht ?_
 rintro _ cdv f A outer s H E rfl hc
 exact au (cO (cC (bZ (aa (bu G_is_row (hc.room.mono (by decide)) rfl (aj (sn 0) (aj (aa (aq)) (aj (aa (aq)) ak)))))))
   (aG (aU (gj)))
   (bT))
   (au (jR (sv 0) (gH hc.calm (aB (az (i:=1) rfl gZ.nd rfl (by first | exact .inl rfl | exact .inr rfl)) (aB (az (i:=2) rfl gZ.nd rfl (by first | exact .inl rfl | exact .inr rfl)) (aB (az (i:=3) rfl gZ.nd rfl (by first | exact .inl rfl | exact .inr rfl)) (aB (az (i:=4) rfl gZ.nd rfl (by first | exact .inl rfl | exact .inr rfl)) fD)))) (goN [1,2,3,4])))
   (au (cO (SW.b (iJ (cC (bZ (aa (bu G_is_net (hc.room.mono (by decide)) rfl (aj (sn 1) ak))))) (iJ (cC (bZ (aa (bu G_is_row (hc.room.mono (by decide)) rfl (aj (sn 2) (aj (aa (aq)) (aj (aa (aq)) ak))))))) (gJ (cC (bZ (aa (bu G_is_row (hc.room.mono (by decide)) rfl (aj (sn 4) (aj (aa (aq)) (aj (aa (aq)) ak)))))))))))
   (aG (aU (gj)))
   (bT))
   (au (bz (i:=5) rfl gZ.nd rfl (by first | exact .inl rfl | exact .inr rfl) (cH (sn 1) (aa (aq)) (fun _ _=>rfl)))
   (au (cO (SW.b (iJ (cC (bZ (aa (bA (jh hc.calm) ji rfl n_all mq (aj (aa (bU (own:=["work"]) (fr:=[5]) hc.calm (cD (sv 2)) (CScope.of (by rfl)) (by decide) (fun _ _ _ _ _=>(az (i:=0) rfl (cX (by rfl)) rfl (by first | exact .inl rfl | exact .inr rfl))) (fun _ _ _ _ _=>bQ) (fun _ _ _ _ _=>(bu G_is_work (hc.room.mono (by decide)) rfl (aj (sn 0) (aj (sn 1) ak)))))) ak))))) (gJ (cC (bZ (aa (bu G_is_store (hc.room.mono (by decide)) rfl (aj (sn 3) (aj (sn 5) ak)))))))))
   (aG (aU (gj)))
   (bT))
   (aG (aU (bA (jh hc.calm) ji rfl n_all mq (aj (aa (bU (own:=["wants"]) (fr:=[5]) hc.calm (cD (sv 4)) (CScope.of (by rfl)) (by decide) (fun _ _ _ _ _=>(az (i:=0) rfl (cX (by rfl)) rfl (by first | exact .inl rfl | exact .inr rfl))) (fun _ _ _ _ _=>bQ) (fun _ _ _ _ _=>(bu G_are_wants (hc.room.mono (by decide)) rfl (aj (sn 0) (aj (sn 1) ak)))))) ak))))))))
theorem xJ:FnScope ["word"] ["word"] (aF (top 23)):=⟨rfl,rfl,rfl,by decide +kernel,rfl,by decide +kernel,by decide +kernel⟩
theorem wO (T:Known K mg "is_number" (top 23) ["word"]) (ht:P.given.tree=none) (c_MOST_FIGURES:∃ t,mg "MOST_FIGURES" = some (.int 40 t)) (s_FIGURES:∃ t,mg "FIGURES" = some (.str "0123456789" t)) (n_all:mg "all" = none) (n_len:mg "len" = none):Prm P w K mg base "is_number" 35 ["word"] (aW K 1 false gU):=by
 refine T.sem xJ ht ?_
 rintro _ cdv f A outer s H E rfl hc
 exact au (cO (SW.b (iJ (dm (jN hc.room.units) il (sn 0) (aa (cg)) (cB _)) (gJ (dm Dl qY (aa (bA dH iw rfl n_len lL (aj (sn 0) ak))) (aa (Jw rfl c_MOST_FIGURES)) (cB _)))))
   (aG (aU (gj)))
   (bT))
   (au (cO (cC (bZ (aa (bA (jh hc.calm) ji rfl n_all mq (aj (aa (bU (own:=["sign"]) (fr:=[]) hc.calm (Te (sv 0)) (CScope.of (by rfl)) (by decide) (fun _ _ _ _ _=>(az (i:=0) rfl (cX (by rfl)) rfl (by first | exact .inl rfl | exact .inr rfl))) (fun _ _ _ _ _=>bQ) (fun _ _ _ _ _=>(kY Fx GX (sn 0) (aa (Jx rfl s_FIGURES)) rfl)))) ak)))))
   (aG (aU (gj)))
   (bT))
   (aG (aU (Qa (kY (jN hc.room.units) il (sn 0) (aa (cg)) (cB _)) (gC (kY (qj hc.room.units) mX (aa (cH (sn 0) (aa (aq)) (fun _ _=>rfl))) (aa (cg)) (cB _)))))))
theorem uL:FnScope ["words"] ["words"] (aF (top 24)):=⟨rfl,rfl,rfl,by decide +kernel,rfl,by decide +kernel,by decide +kernel⟩
theorem uE (T:Known K mg "numbers_of" (top 24) ["words"]) (ht:P.given.tree=none) (n_all:mg "all" = none) (n_int:mg "int" = none) (G_is_number:Prm P w K mg base "is_number" 35 ["word"] (aW K 1 false gU)):Prm P w K mg base "numbers_of" 36 ["words"] (aW K 1 false gf):=by
 refine T.sem uL ht ?_
 rintro _ cdv f A outer s H E rfl hc
 exact au (cO (cC (bZ (aa (bA (jh hc.calm) ji rfl n_all mq (aj (aa (bU (own:=["word"]) (fr:=[]) hc.calm (cD (sv 0)) (CScope.of (by rfl)) (by decide) (fun _ _ _ _ _=>(az (i:=0) rfl (cX (by rfl)) rfl (by first | exact .inl rfl | exact .inr rfl))) (fun _ _ _ _ _=>bQ) (fun _ _ _ _ _=>(bu G_is_number (hc.room.mono (by decide)) rfl (aj (sn 0) ak))))) ak)))))
   (aG (aU (mJ)))
   (bT))
   (aG (aU (bU (own:=["word"]) (fr:=[]) hc.calm (cD (sv 0)) (CScope.of (by rfl)) (by decide) (fun _ _ _ _ _=>(az (i:=0) rfl (cX (by rfl)) rfl (by first | exact .inl rfl | exact .inr rfl))) (fun _ _ _ _ _=>bQ) (fun _ _ _ _ _=>(bG Em Ew rfl n_int pQ (aj (sn 0) ak))))))
theorem Ge:FnScope ["numbers", "sign"] ["numbers", "sign"] (aF (top 26)):=⟨rfl,rfl,rfl,by decide +kernel,rfl,by decide +kernel,by decide +kernel⟩
theorem Fw (T:Known K mg "joined" (top 26) ["numbers", "sign"]) (ht:P.given.tree=none) (n_str:mg "str" = none):Prm P w K mg base "joined" 35 ["numbers", "sign"] (aW K 2 false dw):=by
 refine T.sem Ge ht ?_
 rintro _ cdv f A outer s H E rfl hc
 exact aG (aU (JB (pvn 1) (aj (aa (bU (own:=["number"]) (fr:=[]) hc.calm (cD (sv 0)) (CScope.of (by rfl)) (by decide) (fun _ _ _ _ _=>(az (i:=0) rfl (cX (by rfl)) rfl (by first | exact .inl rfl | exact .inr rfl))) (fun _ _ _ _ _=>bQ) (fun _ _ _ _ _=>(bG dI gR rfl n_str kI (aj (sn 0) ak))))) ak)))
theorem cU:FnScope ["work", "place", "least", "keep", "pieces", "start", "stay", "rest", "was", "words"] ["work"] (aF (top 27)):=⟨rfl,rfl,rfl,by decide +kernel,rfl,by decide +kernel,by decide +kernel⟩
theorem wY (T:Known K mg "show_work" (top 27) ["work"]) (ht:P.given.tree=none) (G_joined:Prm P w K mg base "joined" 35 ["numbers", "sign"] (aW K 2 false dw)):Prm P w K mg base "show_work" 36 ["work"] (aW K 1 false fW):=by
 refine T.sem cU ht ?_
 rintro _ cdv f A outer s H E rfl hc
 exact au (jR (sv 0) (gH hc.calm (aB (az (i:=1) rfl cU.nd rfl (by first | exact .inl rfl | exact .inr rfl)) (aB (az (i:=2) rfl cU.nd rfl (by first | exact .inl rfl | exact .inr rfl)) (aB (az (i:=3) rfl cU.nd rfl (by first | exact .inl rfl | exact .inr rfl)) (aB (az (i:=4) rfl cU.nd rfl (by first | exact .inl rfl | exact .inr rfl)) (aB (az (i:=5) rfl cU.nd rfl (by first | exact .inl rfl | exact .inr rfl)) (aB (az (i:=6) rfl cU.nd rfl (by first | exact .inl rfl | exact .inr rfl)) (aB (az (i:=7) rfl cU.nd rfl (by first | exact .inl rfl | exact .inr rfl)) (aB (az (i:=8) rfl cU.nd rfl (by first | exact .inl rfl | exact .inr rfl)) fD)))))))) (goN [1,2,3,4,5,6,7,8])))
   (au (bz (i:=9) rfl cU.nd rfl (by first | exact .inl rfl | exact .inr rfl) (gq (aj (aa (bu G_joined (hc.room.mono (by decide)) rfl (aj (aa (iI (aj (aa (sv 1)) (aj (aa (sv 2)) (aj (aa (sv 3)) (aj (aa (sv 5)) (aj (aa (sv 6)) (aj (aa (sv 7)) ak)))))))) (aj (aa (cg)) ak)))) (aj (aa (Jy (bZ (sn 8)) (cg) (cg))) ak))))
   (aG (aU (iH (aj (aa (aN aO aX (aa (aN aO aX (aa (gq (aj (aa (cg)) ak))) (aa (sv 9)))) (aa (bU (own:=["piece"]) (fr:=[]) hc.calm (cD (sv 4)) (CScope.of (by rfl)) (by decide) (fun _ _ _ _ _=>(az (i:=0) rfl (cX (by rfl)) rfl (by first | exact .inl rfl | exact .inr rfl))) (fun _ _ _ _ _=>bQ) (fun _ _ _ _ _=>(bu G_joined (hc.room.mono (by decide)) rfl (aj (sn 0) (aj (aa (cg)) ak)))))))) ak)))))
theorem fJ:FnScope ["house", "net", "works", "store", "hours", "rows"] ["house"] (aF (top 28)):=⟨rfl,rfl,rfl,by decide +kernel,rfl,by decide +kernel,by decide +kernel⟩
theorem uH (T:Known K mg "show_house" (top 28) ["house"]) (ht:P.given.tree=none) (G_joined:Prm P w K mg base "joined" 35 ["numbers", "sign"] (aW K 2 false dw)) (G_show_work:Prm P w K mg base "show_work" 36 ["work"] (aW K 1 false fW)):Prm P w K mg base "show_house" 37 ["house"] (aW K 1 false dN):=by
 refine T.sem fJ ht ?_
 rintro _ cdv f A outer s H E rfl hc
 exact au (jR (sv 0) (gH hc.calm (aB (az (i:=1) rfl fJ.nd rfl (by first | exact .inl rfl | exact .inr rfl)) (aB (az (i:=2) rfl fJ.nd rfl (by first | exact .inl rfl | exact .inr rfl)) (aB (az (i:=3) rfl fJ.nd rfl (by first | exact .inl rfl | exact .inr rfl)) (aB (az (i:=4) rfl fJ.nd rfl (by first | exact .inl rfl | exact .inr rfl)) fD)))) (goN [1,2,3,4])))
   (au (bz (i:=5) rfl fJ.nd rfl (by first | exact .inl rfl | exact .inr rfl) (gq (aj (aa (Jz (cg) (NQ (cH (sn 1) (aa (aq)) (fun _ _=>rfl))))) ak)))
   (au (gh (ju (i:=5) PySem.F.slot_list_extend PySem.F.type_list_extend qi pY rfl (by first | exact .inl rfl | exact .inr (.inl rfl) | exact .inr (.inr rfl)) (aj (aa (bU (own:=["line"]) (fr:=[]) hc.calm (cD (cH (sn 1) (aa (aq)) (fun _ _=>rfl))) (CScope.of (by rfl)) (by decide) (fun _ _ _ _ _=>(az (i:=0) rfl (cX (by rfl)) rfl (by first | exact .inl rfl | exact .inr rfl))) (fun _ _ _ _ _=>bQ) (fun _ _ _ _ _=>(aN aO aX (aa (cg)) (aa (bu G_joined (hc.room.mono (by decide)) rfl (aj (sn 0) (aj (aa (cg)) ak)))))))) ak)))
   (au (gh (ju (i:=5) PySem.F.slot_list_extend PySem.F.type_list_extend qi pY rfl (by first | exact .inl rfl | exact .inr (.inl rfl) | exact .inr (.inr rfl)) (aj (aa (bU (own:=["work"]) (fr:=[]) hc.calm (cD (sv 2)) (CScope.of (by rfl)) (by decide) (fun _ _ _ _ _=>(az (i:=0) rfl (cX (by rfl)) rfl (by first | exact .inl rfl | exact .inr rfl))) (fun _ _ _ _ _=>bQ) (fun _ _ _ _ _=>(bu G_show_work (hc.room.mono (by decide)) rfl (aj (sn 0) ak))))) ak)))
   (au (cO (dm Dn vf (sn 3) (aa (mJ)) (cB _))
   (aG (gh (ju (i:=5) PySem.F.slot_list_append PySem.F.type_list_append fH fZ rfl (by first | exact .inl rfl | exact .inr (.inl rfl) | exact .inr (.inr rfl)) (aj (aa (aN aO aX (aa (cg)) (aa (bu G_joined (hc.room.mono (by decide)) rfl (aj (sn 3) (aj (aa (cg)) ak)))))) ak))))
   (bT))
   (au (gh (ju (i:=5) PySem.F.slot_list_extend PySem.F.type_list_extend qi pY rfl (by first | exact .inl rfl | exact .inr (.inl rfl) | exact .inr (.inr rfl)) (aj (aa (bU (own:=["wants"]) (fr:=[]) hc.calm (cD (sv 4)) (CScope.of (by rfl)) (by decide) (fun _ _ _ _ _=>(az (i:=0) rfl (cX (by rfl)) rfl (by first | exact .inl rfl | exact .inr rfl))) (fun _ _ _ _ _=>bQ) (fun _ _ _ _ _=>(iH (aj (aa (aN aO aX (aa (gq (aj (aa (cg)) ak))) (aa (bU (own:=["want"]) (fr:=[]) hc.calm (cD (sv 0)) (CScope.of (by rfl)) (by decide) (fun _ _ _ _ _=>(az (i:=0) rfl (cX (by rfl)) rfl (by first | exact .inl rfl | exact .inr rfl))) (fun _ _ _ _ _=>bQ) (fun _ _ _ _ _=>(bu G_joined (hc.room.mono (by decide)) rfl (aj (sn 0) (aj (aa (cg)) ak)))))))) ak))))) ak)))
   (aG (aU (iH (aj (sn 5) ak)))))))))
theorem lY:FnScope ["words", "many", "found"] ["words", "many"] (aF (top 29)):=⟨rfl,rfl,rfl,by decide +kernel,rfl,by decide +kernel,by decide +kernel⟩
theorem qR (T:Known K mg "read_numbers" (top 29) ["words", "many"]) (ht:P.given.tree=none) (n_len:mg "len" = none) (n_tuple:mg "tuple" = none) (G_numbers_of:Prm P w K mg base "numbers_of" 36 ["words"] (aW K 1 false gf)):Prm P w K mg base "read_numbers" 37 ["words", "many"] (aW K 2 false bw):=by
 refine T.sem lY ht ?_
 rintro _ cdv f A outer s H E rfl hc
 exact au (bz (i:=2) rfl lY.nd rfl (by first | exact .inl rfl | exact .inr rfl) (bu G_numbers_of (hc.room.mono (by decide)) rfl (aj (sn 0) ak)))
   (au (cO (SW.b (iJ (dm Br su (sn 2) (aa (mJ)) (cB _)) (gJ (dm (qj hc.room.units) mX (aa (bA dH iw rfl n_len lL (aj (sn 2) ak))) (sn 1) (cB _)))))
   (aG (lJ))
   (bT))
   (aG (aU (bG cA du rfl n_tuple eF (aj (sn 2) ak)))))
theorem zV:FnScope ["words"] ["words"] (aF (top 30)):=⟨rfl,rfl,rfl,by decide +kernel,rfl,by decide +kernel,by decide +kernel⟩
theorem zy (T:Known K mg "read_net" (top 30) ["words"]) (ht:P.given.tree=none) (G_read_numbers:Prm P w K mg base "read_numbers" 37 ["words", "many"] (aW K 2 false bw)):Prm P w K mg base "read_net" 38 ["words"] (aW K 1 false gG):=by
 refine T.sem zV ht ?_
 rintro _ cdv f A outer s H E rfl hc
 exact aG (aU (fB jM iu (aa (Vr (bu G_read_numbers (hc.room.mono (by decide)) rfl (aj (sn 0) (aj (aa (aq)) ak))))) (aa (aq)) (fun _ _=>rfl)))
theorem xN:FnScope ["words"] ["words"] (aF (top 31)):=⟨rfl,rfl,rfl,by decide +kernel,rfl,by decide +kernel,by decide +kernel⟩
theorem wV (T:Known K mg "read_line" (top 31) ["words"]) (ht:P.given.tree=none) (G_read_numbers:Prm P w K mg base "read_numbers" 37 ["words", "many"] (aW K 2 false bw)):Prm P w K mg base "read_line" 38 ["words"] (aW K 1 false fU):=by
 refine T.sem xN ht ?_
 rintro _ cdv f A outer s H E rfl hc
 exact aG (aU (bu G_read_numbers (hc.room.mono (by decide)) rfl (aj (sn 0) (aj (aa (aq)) ak))))
theorem dO:FnScope ["words", "place", "least", "keep", "start", "stay", "rest", "pieces"] ["words"] (aF (top 32)):=⟨rfl,rfl,rfl,by decide +kernel,rfl,by decide +kernel,by decide +kernel⟩
theorem wX (T:Known K mg "read_work" (top 32) ["words"]) (ht:P.given.tree=none) (n_len:mg "len" = none) (n_tuple:mg "tuple" = none) (G_read_numbers:Prm P w K mg base "read_numbers" 37 ["words", "many"] (aW K 2 false bw)):Prm P w K mg base "read_work" 38 ["words"] (aW K 1 false fV):=by
 refine T.sem dO ht ?_
 rintro _ cdv f A outer s H E rfl hc
 exact au (cO (SW.b (iJ (dm Dm rm (aa (bA dH iw rfl n_len lL (aj (sn 0) ak))) (aa (aq)) (cB _)) (gJ (dm (FJ hc.room.units65) yI (aa (cH (sn 0) (aa (aq)) (fun _ _=>rfl))) (aa (iI (aj (aa (cg)) (aj (aa (cg)) ak)))) rfl))))
   (aG (lJ))
   (bT))
   (au (jR (bu G_read_numbers (hc.room.mono (by decide)) rfl (aj (aa (Oa (sn 0) (aa (aq)))) (aj (aa (aq)) ak))) (gH hc.calm (aB (az (i:=1) rfl dO.nd rfl (by first | exact .inl rfl | exact .inr rfl)) (aB (az (i:=2) rfl dO.nd rfl (by first | exact .inl rfl | exact .inr rfl)) (aB (az (i:=3) rfl dO.nd rfl (by first | exact .inl rfl | exact .inr rfl)) (aB (az (i:=4) rfl dO.nd rfl (by first | exact .inl rfl | exact .inr rfl)) (aB (az (i:=5) rfl dO.nd rfl (by first | exact .inl rfl | exact .inr rfl)) (aB (az (i:=6) rfl dO.nd rfl (by first | exact .inl rfl | exact .inr rfl)) fD)))))) (goN [1,2,3,4,5,6])))
   (au (bz (i:=7) rfl dO.nd rfl (by first | exact .inl rfl | exact .inr rfl) (bG cA du rfl n_tuple eF (aj (aa (bU (own:=["word"]) (fr:=[]) hc.calm (cD (vH (sn 0) (aa (aq)))) (CScope.of (by rfl)) (by decide) (fun _ _ _ _ _=>(az (i:=0) rfl (cX (by rfl)) rfl (by first | exact .inl rfl | exact .inr rfl))) (fun _ _ _ _ _=>bQ) (fun _ _ _ _ _=>(bu G_read_numbers (hc.room.mono (by decide)) rfl (aj (aa (nH (sn 0))) (aj (aa (aq)) ak)))))) ak)))
   (aG (aU (@xP _ _ _ _ _ (bO rfl (aa (sv 1)) (bO rfl (aa (sv 2)) (bO rfl (aa (sv 3)) (bO rfl (aa (sv 7)) (bO rfl (aa (sv 4)) (bO rfl (aa (sv 5)) (bO rfl (aa (sv 6)) (bO rfl (aa (kY (jN hc.room.units) il (aa (cH (sn 0) (aa (aq)) (fun _ _=>rfl))) (aa (cg)) (cB _))) nG)))))))))))))
theorem uM:FnScope ["words"] ["words"] (aF (top 33)):=⟨rfl,rfl,rfl,by decide +kernel,rfl,by decide +kernel,by decide +kernel⟩
theorem uG (T:Known K mg "read_store" (top 33) ["words"]) (ht:P.given.tree=none) (G_read_numbers:Prm P w K mg base "read_numbers" 37 ["words", "many"] (aW K 2 false bw)):Prm P w K mg base "read_store" 38 ["words"] (aW K 1 false eZ):=by
 refine T.sem uM ht ?_
 rintro _ cdv f A outer s H E rfl hc
 exact aG (aU (bu G_read_numbers (hc.room.mono (by decide)) rfl (aj (sn 0) (aj (aa (aq)) ak))))
theorem xM:FnScope ["words"] ["words"] (aF (top 34)):=⟨rfl,rfl,rfl,by decide +kernel,rfl,by decide +kernel,by decide +kernel⟩
theorem wU (T:Known K mg "read_hour" (top 34) ["words"]) (ht:P.given.tree=none) (n_tuple:mg "tuple" = none) (G_read_numbers:Prm P w K mg base "read_numbers" 37 ["words", "many"] (aW K 2 false bw)):Prm P w K mg base "read_hour" 38 ["words"] (aW K 1 false eU):=by
 refine T.sem xM ht ?_
 rintro _ cdv f A outer s H E rfl hc
 exact aG (aU (bG cA du rfl n_tuple eF (aj (aa (bU (own:=["word"]) (fr:=[]) hc.calm (cD (sv 0)) (CScope.of (by rfl)) (by decide) (fun _ _ _ _ _=>(az (i:=0) rfl (cX (by rfl)) rfl (by first | exact .inl rfl | exact .inr rfl))) (fun _ _ _ _ _=>bQ) (fun _ _ _ _ _=>(bu G_read_numbers (hc.room.mono (by decide)) rfl (aj (aa (nH (sn 0))) (aj (aa (aq)) ak)))))) ak)))
theorem fu:FnScope ["text", "found", "last", "row", "words", "reader"] ["text"] (aF (top 37)):=⟨rfl,rfl,rfl,by decide +kernel,rfl,by decide +kernel,by decide +kernel⟩
theorem wW (T:Known K mg "read_rows" (top 37) ["text"]) (ht:P.given.tree=none) (d_READERS:Ej P w K "READERS" [("net", "read_net"),("line", "read_line"),("work", "read_work"),("store", "read_store"),("hour", "read_hour")]) (f_READERS:FnAt K mg "READERS") (g_ORDER:Ek K mg "ORDER" ["net", "line", "work", "store", "hour"]) (n_len:mg "len" = none) (G_read_net:Prm P w K mg base "read_net" 38 ["words"] (aW K 1 false gG)) (G_read_line:Prm P w K mg base "read_line" 38 ["words"] (aW K 1 false fU)) (G_read_work:Prm P w K mg base "read_work" 38 ["words"] (aW K 1 false fV)) (G_read_store:Prm P w K mg base "read_store" 38 ["words"] (aW K 1 false eZ)) (G_read_hour:Prm P w K mg base "read_hour" 38 ["words"] (aW K 1 false eU)):Prm P w K mg base "read_rows" 39 ["text"] (aW K 1 false gW):=by
 refine T.sem fu ht ?_
 rintro _ cdv f A outer s H E rfl hc
 exact au (JP (i:=1) (own:=["word"]) (fr:=[]) rfl fu.nd rfl (by first | exact .inl rfl | exact .inr rfl) hc.calm (JD rfl g_ORDER) (CScope.of (by rfl)) (by decide) (fun _ _ _ _ _=>(az (i:=0) rfl (cX (by rfl)) rfl (by first | exact .inl rfl | exact .inr rfl))) (fun _ _ _ _ _=>(sv 0)) (fun _ _ _ _ _=>(gq ak)))
   (au (bz (i:=2) rfl fu.nd rfl (by first | exact .inl rfl | exact .inr rfl) (aq))
   (au (jT PassesOwn.never hc.calm (cD (nH (sn 0))) (az (i:=3) rfl fu.nd rfl (by first | exact .inl rfl | exact .inr rfl))
   (au (bz (i:=4) rfl fu.nd rfl (by first | exact .inl rfl | exact .inr rfl) (nH (sn 3)))
   (au (cO (SW.b (iJ (dm (Fz d_READERS) yH (aa (cH (sn 4) (aa (aq)) (fun _ _=>rfl))) (aa (Jv f_READERS rfl)) rfl) (gJ (dm Dm rm (aa (vG rfl g_ORDER (aj (aa (cH (sn 4) (aa (aq)) (fun _ _=>rfl))) ak))) (sn 2) (cB _)))))
   (aG (lJ))
   (bT))
   (au (bz (i:=2) rfl fu.nd rfl (by first | exact .inl rfl | exact .inr rfl) (vG rfl g_ORDER (aj (aa (cH (sn 4) (aa (aq)) (fun _ _=>rfl))) ak)))
   (au (bz (i:=5) rfl fu.nd rfl (by first | exact .inl rfl | exact .inr rfl) (NT d_READERS f_READERS rfl (aa (cH (sn 4) (aa (aq)) (fun _ _=>rfl))) (fun _ _=>rfl)))
   (aG (gh (NP (pvn 1) (cH (sn 4) (aa (aq)) (fun _ _=>rfl)) (SM (i:=5) rfl (by first | exact .inl rfl | exact .inr (.inl rfl) | exact .inr (.inr rfl)) (mQ ⟨_,_,G_read_net,hc.room.mono (by decide)⟩ (mQ ⟨_,_,G_read_line,hc.room.mono (by decide)⟩ (mQ ⟨_,_,G_read_work,hc.room.mono (by decide)⟩ (mQ ⟨_,_,G_read_store,hc.room.mono (by decide)⟩ (mQ ⟨_,_,G_read_hour,hc.room.mono (by decide)⟩ Oq))))) (aj (aa (vH (sn 4) (aa (aq)))) ak)) (fun _ _=>rfl)))))))))
   (au (cO (SW.b (iJ (dm (qj hc.room.units) mX (aa (bA dH iw rfl n_len lL (aj (aa (fB lM gQ (aa (sv 1)) (aa (cg)) (fun _ _=>rfl))) ak))) (aa (aq)) (cB _)) (gJ (dm Dl qY (aa (bA dH iw rfl n_len lL (aj (aa (fB lM gQ (aa (sv 1)) (aa (cg)) (fun _ _=>rfl))) ak))) (aa (aq)) (cB _)))))
   (aG (lJ))
   (bT))
   (aG (xX (i:=1) rfl rfl (by first | exact .inl rfl | exact .inr (.inl rfl) | exact .inr (.inr rfl)))))))
theorem jg:FnScope ["text", "found", "store", "house"] ["text"] (aF (top 38)):=⟨rfl,rfl,rfl,by decide +kernel,rfl,by decide +kernel,by decide +kernel⟩
theorem uF (T:Known K mg "read_house" (top 38) ["text"]) (ht:P.given.tree=none) (n_isinstance:mg "isinstance" = none) (n_str:mg "str" = none) (n_tuple:mg "tuple" = none) (G_read_rows:Prm P w K mg base "read_rows" 39 ["text"] (aW K 1 false gW)) (G_is_house:Prm P w K mg base "is_house" 40 ["thing"] (aW K 1 false gF)):Prm P w K mg base "read_house" 41 ["text"] (aW K 1 false dM):=by
 refine T.sem jg ht ?_
 rintro _ cdv f A outer s H E rfl hc
 exact au (cO (cC (bZ (aa (bA ig ir rfl n_isinstance cQ (aj (sn 0) (aj (aa (pI rfl n_str kI)) ak))))))
   (aG (lJ))
   (bT))
   (au (bz (i:=1) rfl jg.nd rfl (by first | exact .inl rfl | exact .inr rfl) (bu G_read_rows (hc.room.mono (by decide)) rfl (aj (sn 0) ak)))
   (au (bz (i:=2) rfl jg.nd rfl (by first | exact .inl rfl | exact .inr rfl) (Jy (bZ (aa (fB lM gQ (aa (sv 1)) (aa (cg)) (fun _ _=>rfl)))) (fB jM iu (aa (fB lM gQ (aa (sv 1)) (aa (cg)) (fun _ _=>rfl))) (aa (aq)) (fun _ _=>rfl)) (mJ)))
   (au (bz (i:=3) rfl jg.nd rfl (by first | exact .inl rfl | exact .inr rfl) (@xP _ _ _ _ _ (vD rfl (DR (bO rfl (aa (fB jM iu (aa (fB lM gQ (aa (sv 1)) (aa (cg)) (fun _ _=>rfl))) (aa (aq)) (fun _ _=>rfl))) (bO rfl (aa (bG cA du rfl n_tuple eF (aj (aa (fB lM gQ (aa (sv 1)) (aa (cg)) (fun _ _=>rfl))) ak))) nG))) (bO rfl (aa (bG cA du rfl n_tuple eF (aj (aa (fB lM gQ (aa (sv 1)) (aa (cg)) (fun _ _=>rfl))) ak))) (bO rfl (aa (sv 2)) (bO rfl (aa (bG cA du rfl n_tuple eF (aj (aa (fB lM gQ (aa (sv 1)) (aa (cg)) (fun _ _=>rfl))) ak))) nG))))))
   (au (cO (cC (bZ (aa (bu G_is_house (hc.room.mono (by decide)) rfl (aj (sn 3) ak)))))
   (aG (lJ))
   (bT))
   (aG (xX (i:=3) rfl rfl (by first | exact .inl rfl | exact .inr (.inl rfl) | exact .inr (.inr rfl))))))))
theorem fX:FnScope ["_law_script", "_law_at", "_law_cell", "_law_mix", "_law_k"] ["_law_script", "_law_at"] (aF (top 40)):=⟨rfl,rfl,rfl,by decide +kernel,rfl,by decide +kernel,by decide +kernel⟩
theorem zp (T:Known K mg "_law_bag" (top 40) ["_law_script", "_law_at"]) (ht:P.given.tree=none) (n_abs:mg "abs" = none) (n_len:mg "len" = none) (n_min:mg "min" = none) (n_range:mg "range" = none):Prm P w K mg base "_law_bag" 35 ["_law_script", "_law_at"] (aW K 2 false iR):=by
 refine T.sem fX ht ?_
 rintro _ cdv f A outer s H E rfl hc
 exact au (bz (i:=2) rfl fX.nd rfl (by first | exact .inl rfl | exact .inr rfl) (aq))
   (au (cO (dm Dm rm (sn 1) (aa (bA dH iw rfl n_len lL (aj (sn 0) ak))) (cB _))
   (aG (bz (i:=2) rfl fX.nd rfl (by first | exact .inl rfl | exact .inr rfl) (bA GF GR rfl n_abs Ql (aj (aa (cH (sn 0) (sn 1) (fun _ _=>rfl))) ak))))
   (bT))
   (au (bz (i:=3) rfl fX.nd rfl (by first | exact .inl rfl | exact .inr rfl) (aN jd gr (aa (aN Bs sH (aa (aN aO aX (aa (aN aO aX (aa (aN jd gr (sn 2) (aa (aq)))) (aa (aN jC lu (aa (aq)) (sn 1))))) (aa (aq)))) (aa (aq)))) (aa (aq))))
   (au (jT PassesOwn.never hc.calm (iW rfl n_range (aj (aa (bA (uV hc.calm) yG rfl n_min GD (aj (aa (bA dH iw rfl n_len lL (aj (sn 0) ak))) (aj (aa (aq)) ak)))) ak)) (az (i:=4) rfl fX.nd rfl (by first | exact .inl rfl | exact .inr rfl))
   (aG (bz (i:=3) rfl fX.nd rfl (by first | exact .inl rfl | exact .inr rfl) (aN jd gr (aa (aN aO aX (aa (aN aO aX (aa (aN jC lu (sn 3) (aa (aq)))) (aa (aN jC lu (aa (aN jd gr (aa (cH (sn 0) (sn 4) (fun _ _=>rfl))) (aa (aq)))) (aa (aN aO aX (sn 4) (aa (aq)))))))) (sn 4))) (aa (aq))))))
   (au (cO (dm Dm rm (sn 2) (aa (aN Bs sH (aa (aq)) (aa (aq)))) (cB _))
   (aG (bz (i:=2) rfl fX.nd rfl (by first | exact .inl rfl | exact .inr rfl) (aq)))
   (bT))
   (aG (aU (gq (aj (aa (sv 2)) (aj (aa (sv 3)) ak)))))))))
theorem pH:FnScope ["_law_bag_here", "_law_many", "_law_digit"] ["_law_bag_here", "_law_many"] (aF (top 41)):=⟨rfl,rfl,rfl,by decide +kernel,rfl,by decide +kernel,by decide +kernel⟩
theorem wK (T:Known K mg "_law_take" (top 41) ["_law_bag_here", "_law_many"]) (ht:P.given.tree=none):Prm P w K mg base "_law_take" 35 ["_law_bag_here", "_law_many"] (aW K 2 true ao):=by
 refine T.sem pH ht ?_
 rintro _ cdv f A outer s H E rfl hc
 exact au (cO (dm Dl qY (aa (cH (sn 0) (aa (aq)) (fun _ _=>rfl))) (aa (aq)) (cB _))
   (au (bz (i:=2) rfl pH.nd rfl (by first | exact .inl rfl | exact .inr rfl) (aN jd gr (aa (cH (sn 0) (aa (aq)) (fun _ _=>rfl))) (sn 1)))
   (au (zZ (i:=0) rfl (by first | exact .inl rfl | exact .inr (.inl rfl) | exact .inr (.inr rfl)) (aN (zA (Cc.mono hc (by decide))) uZ (aa (cH (sn 0) (aa (aq)) (fun _ _=>rfl))) (sn 1)) (aa (aq)))
   (aG (xX (i:=2) rfl rfl (by first | exact .inl rfl | exact .inr (.inl rfl) | exact .inr (.inr rfl))))))
   (bT))
   (au (zZ (i:=0) rfl (by first | exact .inl rfl | exact .inr (.inl rfl) | exact .inr (.inr rfl)) (aN jd gr (aa (aN aO aX (aa (aN jC lu (aa (cH (sn 0) (aa (aq)) (fun _ _=>rfl))) (aa (aq)))) (aa (aq)))) (aa (aq))) (aa (aq)))
   (aG (aU (aN jd gr (aa (aN jd gr (aa (aN jC lu (aa (aN (zA (Cc.mono hc (by decide))) uZ (aa (aN jd gr (aa (aN Bs sH (aa (cH (sn 0) (aa (aq)) (fun _ _=>rfl))) (aa (aq)))) (aa (aq)))) (aa (aq)))) (aa (aq)))) (aa (aq)))) (sn 1)))))
theorem gY:FnScope ["_law_bag_here", "_law_many", "_law_lines", "_law_place", "_law_k", "_law_one", "_law_high"] ["_law_bag_here", "_law_many"] (aF (top 42)):=⟨rfl,rfl,rfl,by decide +kernel,rfl,by decide +kernel,by decide +kernel⟩
theorem zq (T:Known K mg "_law_net" (top 42) ["_law_bag_here", "_law_many"]) (ht:P.given.tree=none) (n_int:mg "int" = none) (n_range:mg "range" = none) (n_tuple:mg "tuple" = none) (G__law_take:Prm P w K mg base "_law_take" 35 ["_law_bag_here", "_law_many"] (aW K 2 true ao)):Prm P w K mg base "_law_net" 36 ["_law_bag_here", "_law_many"] (aW K 2 true eY):=by
 refine T.sem gY ht ?_
 rintro _ cdv f A outer s H E rfl hc
 exact au (bz (i:=2) rfl gY.nd rfl (by first | exact .inl rfl | exact .inr rfl) (gq ak))
   (au (jT PassesOwn.never hc.calm (Gi rfl n_range (aj (aa (aq)) (aj (sn 1) ak))) (az (i:=3) rfl gY.nd rfl (by first | exact .inl rfl | exact .inr rfl))
   (aG (gh (ju (i:=2) PySem.F.slot_list_append PySem.F.type_list_append fH fZ rfl (by first | exact .inl rfl | exact .inr (.inl rfl) | exact .inr (.inr rfl)) (aj (aa (iI (aj (aa (bH G__law_take (hc.room.mono (by decide)) rfl (aj (sn 0) (aj (sn 3) ak)))) (aj (aa (sv 3)) ak)))) ak)))))
   (au (jT PassesOwn.never hc.calm (iW rfl n_range (aj (aa (aN jC lu (aa (bH G__law_take (hc.room.mono (by decide)) rfl (aj (sn 0) (aj (aa (aN nY jH (aa (aq)) (sn 1))) ak)))) (aa (bG pR rZ rfl n_int pQ (aj (aa (kY Dl qY (sn 1) (aa (aq)) (cB _))) ak))))) ak)) (az (i:=4) rfl gY.nd rfl (by first | exact .inl rfl | exact .inr rfl))
   (au (bz (i:=5) rfl gY.nd rfl (by first | exact .inl rfl | exact .inr rfl) (bH G__law_take (hc.room.mono (by decide)) rfl (aj (sn 0) (aj (sn 1) ak))))
   (aG (gh (ju (i:=2) PySem.F.slot_list_append PySem.F.type_list_append fH fZ rfl (by first | exact .inl rfl | exact .inr (.inl rfl) | exact .inr (.inr rfl)) (aj (aa (iI (aj (aa (sv 5)) (aj (aa (aN jd gr (aa (aN aO aX (aa (aN aO aX (sn 5) (aa (aq)))) (aa (bH G__law_take (hc.room.mono (by decide)) rfl (aj (sn 0) (aj (aa (aN nY jH (sn 1) (aa (aq)))) ak)))))) (sn 1))) ak)))) ak))))))
   (au (bz (i:=6) rfl gY.nd rfl (by first | exact .inl rfl | exact .inr rfl) (fB jM iu (aa (gq (aj (aa (aq)) (aj (aa (aq)) (aj (aa (aq)) (aj (aa (aq)) ak)))))) (aa (bH G__law_take (hc.room.mono (by decide)) rfl (aj (sn 0) (aj (aa (aq)) ak)))) (fun _ _=>rfl)))
   (aG (aU (iI (aj (aa (sv 1)) (aj (aa (bG cA du rfl n_tuple eF (aj (aa (bU (own:=["_law_one", "_law_other"]) (fr:=[0,6]) hc.calm (cD (sv 2)) (CScope.of (by rfl)) (by decide) (fun _ _ _ _ _=>(gH hc.calm (aB (az (i:=0) rfl (cX (by rfl)) rfl (by first | exact .inl rfl | exact .inr rfl)) (aB (az (i:=1) rfl (cX (by rfl)) rfl (by first | exact .inl rfl | exact .inr rfl)) fD)) (goN [0,1]))) (fun _ _ _ _ _=>bQ) (fun _ _ _ _ _=>(iI (aj (aa (sv 0)) (aj (aa (sv 1)) (aj (aa (aN aO aX (aa (aq)) (aa (bH G__law_take (hc.room.mono (by decide)) rfl (aj (sn 2) (aj (aa (aq)) ak)))))) (aj (aa (bH G__law_take (hc.room.mono (by decide)) rfl (aj (sn 2) (aj (aa (aN aO aX (sn 3) (aa (aq)))) ak)))) ak)))))))) ak))) ak))))))))
theorem fc:FnScope ["_law_bag_here", "_law_many", "_law_place", "_law_least", "_law_pieces", "_law_keep", "_law_start", "_law_was"] ["_law_bag_here", "_law_many"] (aF (top 43)):=⟨rfl,rfl,rfl,by decide +kernel,rfl,by decide +kernel,by decide +kernel⟩
theorem wM (T:Known K mg "_law_work" (top 43) ["_law_bag_here", "_law_many"]) (ht:P.given.tree=none) (n_tuple:mg "tuple" = none) (G__law_take:Prm P w K mg base "_law_take" 35 ["_law_bag_here", "_law_many"] (aW K 2 true ao)):Prm P w K mg base "_law_work" 36 ["_law_bag_here", "_law_many"] (aW K 2 true dR):=by
 refine T.sem fc ht ?_
 rintro _ cdv f A outer s H E rfl hc
 exact au (bz (i:=2) rfl fc.nd rfl (by first | exact .inl rfl | exact .inr rfl) (bH G__law_take (hc.room.mono (by decide)) rfl (aj (sn 0) (aj (sn 1) ak))))
   (au (bz (i:=3) rfl fc.nd rfl (by first | exact .inl rfl | exact .inr rfl) (fB jM iu (aa (gq (aj (aa (aq)) (aj (aa (bH G__law_take (hc.room.mono (by decide)) rfl (aj (sn 0) (aj (aa (aq)) ak)))) (aj (aa (bH G__law_take (hc.room.mono (by decide)) rfl (aj (sn 0) (aj (aa (aq)) ak)))) ak))))) (aa (bH G__law_take (hc.room.mono (by decide)) rfl (aj (sn 0) (aj (aa (aq)) ak)))) (fun _ _=>rfl)))
   (au (bz (i:=4) rfl fc.nd rfl (by first | exact .inl rfl | exact .inr rfl) (@NZ _ _ _ _ (vD rfl (DR (bO rfl (aa (aN aO aX (aa (aq)) (aa (bH G__law_take (hc.room.mono (by decide)) rfl (aj (sn 0) (aj (aa (aq)) ak)))))) (bO rfl (aa (bH G__law_take (hc.room.mono (by decide)) rfl (aj (sn 0) (aj (aa (aq)) ak)))) nG))) nG)))
   (au (cO (dm (jN hc.room.units) il (aa (bH G__law_take (hc.room.mono (by decide)) rfl (aj (sn 0) (aj (aa (aq)) ak)))) (aa (aq)) (cB _))
   (aG (gh (ju (i:=4) PySem.F.slot_list_append PySem.F.type_list_append fH fZ rfl (by first | exact .inl rfl | exact .inr (.inl rfl) | exact .inr (.inr rfl)) (aj (aa (iI (aj (aa (aN aO aX (aa (aq)) (aa (bH G__law_take (hc.room.mono (by decide)) rfl (aj (sn 0) (aj (aa (aq)) ak)))))) (aj (aa (aN aO aX (aa (fB jM iu (aa (cH (sn 4) (aa (aq)) (fun _ _=>rfl))) (aa (aq)) (fun _ _=>rfl))) (aa (bH G__law_take (hc.room.mono (by decide)) rfl (aj (sn 0) (aj (aa (aq)) ak)))))) ak)))) ak))))
   (bT))
   (au (bz (i:=5) rfl fc.nd rfl (by first | exact .inl rfl | exact .inr rfl) (bH G__law_take (hc.room.mono (by decide)) rfl (aj (sn 0) (aj (aa (aq)) ak))))
   (au (bz (i:=6) rfl fc.nd rfl (by first | exact .inl rfl | exact .inr rfl) (bH G__law_take (hc.room.mono (by decide)) rfl (aj (sn 0) (aj (aa (aq)) ak))))
   (au (bz (i:=7) rfl fc.nd rfl (by first | exact .inl rfl | exact .inr rfl) (kY (jN hc.room.units) il (aa (bH G__law_take (hc.room.mono (by decide)) rfl (aj (sn 0) (aj (aa (aq)) ak)))) (aa (aq)) (cB _)))
   (aG (aU (@xP _ _ _ _ _ (bO rfl (aa (sv 2)) (bO rfl (aa (sv 3)) (bO rfl (aa (sv 5)) (bO rfl (aa (bG cA du rfl n_tuple eF (aj (sn 4) ak))) (bO rfl (aa (sv 6)) (bO rfl (aa (aN aO aX (aa (aq)) (aa (bH G__law_take (hc.room.mono (by decide)) rfl (aj (sn 0) (aj (aa (aq)) ak)))))) (bO rfl (aa (aN aO aX (aa (aq)) (aa (bH G__law_take (hc.room.mono (by decide)) rfl (aj (sn 0) (aj (aa (aq)) ak)))))) (bO rfl (aa (sv 7)) nG)))))))))))))))))
theorem jf:FnScope ["_law_bag_here", "_law_many", "_law_found", "_law_k", "_law_worth"] ["_law_bag_here", "_law_many"] (aF (top 44)):=⟨rfl,rfl,rfl,by decide +kernel,rfl,by decide +kernel,by decide +kernel⟩
theorem uB (T:Known K mg "_law_wants" (top 44) ["_law_bag_here", "_law_many"]) (ht:P.given.tree=none) (n_int:mg "int" = none) (n_range:mg "range" = none) (n_tuple:mg "tuple" = none) (G__law_take:Prm P w K mg base "_law_take" 35 ["_law_bag_here", "_law_many"] (aW K 2 true ao)):Prm P w K mg base "_law_wants" 36 ["_law_bag_here", "_law_many"] (aW K 2 true eO):=by
 refine T.sem jf ht ?_
 rintro _ cdv f A outer s H E rfl hc
 exact au (bz (i:=2) rfl jf.nd rfl (by first | exact .inl rfl | exact .inr rfl) (gq ak))
   (au (jT PassesOwn.never hc.calm (iW rfl n_range (aj (aa (bH G__law_take (hc.room.mono (by decide)) rfl (aj (sn 0) (aj (aa (aq)) ak)))) ak)) (az (i:=3) rfl jf.nd rfl (by first | exact .inl rfl | exact .inr rfl))
   (au (bz (i:=4) rfl jf.nd rfl (by first | exact .inl rfl | exact .inr rfl) (fB jM iu (aa (gq (aj (aa (bH G__law_take (hc.room.mono (by decide)) rfl (aj (sn 0) (aj (aa (aq)) ak)))) (aj (aa (aq)) ak)))) (aa (bG pR rZ rfl n_int pQ (aj (aa (kY (jN hc.room.units) il (aa (bH G__law_take (hc.room.mono (by decide)) rfl (aj (sn 0) (aj (aa (aq)) ak)))) (aa (aq)) (cB _))) ak))) (fun _ _=>rfl)))
   (aG (gh (ju (i:=2) PySem.F.slot_list_append PySem.F.type_list_append fH fZ rfl (by first | exact .inl rfl | exact .inr (.inl rfl) | exact .inr (.inr rfl)) (aj (aa (iI (aj (aa (bH G__law_take (hc.room.mono (by decide)) rfl (aj (sn 0) (aj (sn 1) ak)))) (aj (aa (bH G__law_take (hc.room.mono (by decide)) rfl (aj (sn 0) (aj (aa (aq)) ak)))) (aj (aa (sv 4)) ak))))) ak))))))
   (aG (aU (bG cA du rfl n_tuple eF (aj (sn 2) ak)))))
theorem kW:FnScope ["_law_bag_here", "_law_many", "_law_top", "_law_taken"] ["_law_bag_here", "_law_many"] (aF (top 45)):=⟨rfl,rfl,rfl,by decide +kernel,rfl,by decide +kernel,by decide +kernel⟩
theorem uA (T:Known K mg "_law_store" (top 45) ["_law_bag_here", "_law_many"]) (ht:P.given.tree=none) (G__law_take:Prm P w K mg base "_law_take" 35 ["_law_bag_here", "_law_many"] (aW K 2 true ao)):Prm P w K mg base "_law_store" 36 ["_law_bag_here", "_law_many"] (aW K 2 true eN):=by
 refine T.sem kW ht ?_
 rintro _ cdv f A outer s H E rfl hc
 exact au (cO (dm (jN hc.room.units) il (aa (bH G__law_take (hc.room.mono (by decide)) rfl (aj (sn 0) (aj (aa (aq)) ak)))) (aa (aq)) (cB _))
   (aG (aU (mJ)))
   (bT))
   (au (bz (i:=2) rfl kW.nd rfl (by first | exact .inl rfl | exact .inr rfl) (aN aO aX (aa (aq)) (aa (bH G__law_take (hc.room.mono (by decide)) rfl (aj (sn 0) (aj (aa (aq)) ak))))))
   (au (bz (i:=3) rfl kW.nd rfl (by first | exact .inl rfl | exact .inr rfl) (aN aO aX (aa (aq)) (aa (bH G__law_take (hc.room.mono (by decide)) rfl (aj (sn 0) (aj (aa (aq)) ak))))))
   (aG (aU (iI (aj (aa (bH G__law_take (hc.room.mono (by decide)) rfl (aj (sn 0) (aj (sn 1) ak)))) (aj (aa (sv 2)) (aj (aa (bH G__law_take (hc.room.mono (by decide)) rfl (aj (sn 0) (aj (aa (aN aO aX (sn 2) (aa (aq)))) ak)))) (aj (aa (sv 3)) (aj (aa (bH G__law_take (hc.room.mono (by decide)) rfl (aj (sn 0) (aj (aa (aN aO aX (sn 3) (aa (aq)))) ak)))) ak))))))))))
theorem cR:FnScope ["_law_bag_here", "_law_many", "_law_hours", "_law_works", "_law_net_here", "_law_some", "_law_store_here"] ["_law_bag_here"] (aF (top 46)):=⟨rfl,rfl,rfl,by decide +kernel,rfl,by decide +kernel,by decide +kernel⟩
theorem uz (T:Known K mg "_law_house" (top 46) ["_law_bag_here"]) (ht:P.given.tree=none) (n_range:mg "range" = none) (n_tuple:mg "tuple" = none) (G__law_take:Prm P w K mg base "_law_take" 35 ["_law_bag_here", "_law_many"] (aW K 2 true ao)) (G__law_net:Prm P w K mg base "_law_net" 36 ["_law_bag_here", "_law_many"] (aW K 2 true eY)) (G__law_work:Prm P w K mg base "_law_work" 36 ["_law_bag_here", "_law_many"] (aW K 2 true dR)) (G__law_store:Prm P w K mg base "_law_store" 36 ["_law_bag_here", "_law_many"] (aW K 2 true eN)) (G__law_wants:Prm P w K mg base "_law_wants" 36 ["_law_bag_here", "_law_many"] (aW K 2 true eO)):Prm P w K mg base "_law_house" 37 ["_law_bag_here"] (aW K 1 true cZ):=by
 refine T.sem cR ht ?_
 rintro _ cdv f A outer s H E rfl hc
 exact au (bz (i:=1) rfl cR.nd rfl (by first | exact .inl rfl | exact .inr rfl) (aN aO aX (aa (aq)) (aa (bH G__law_take (hc.room.mono (by decide)) rfl (aj (sn 0) (aj (aa (aq)) ak))))))
   (au (bz (i:=2) rfl cR.nd rfl (by first | exact .inl rfl | exact .inr rfl) (aN aO aX (aa (aq)) (aa (bH G__law_take (hc.room.mono (by decide)) rfl (aj (sn 0) (aj (aa (aq)) ak))))))
   (au (bz (i:=3) rfl cR.nd rfl (by first | exact .inl rfl | exact .inr rfl) (bH G__law_take (hc.room.mono (by decide)) rfl (aj (sn 0) (aj (aa (aq)) ak))))
   (au (cO (dm (jN hc.room.units) il (aa (bH G__law_take (hc.room.mono (by decide)) rfl (aj (sn 0) (aj (aa (aq)) ak)))) (aa (aq)) (cB _))
   (au (bz (i:=3) rfl cR.nd rfl (by first | exact .inl rfl | exact .inr rfl) (aq))
   (aG (bz (i:=2) rfl cR.nd rfl (by first | exact .inl rfl | exact .inr rfl) (aN aO aX (aa (aq)) (aa (bH G__law_take (hc.room.mono (by decide)) rfl (aj (sn 0) (aj (aa (aq)) ak))))))))
   (bT))
   (au (bz (i:=4) rfl cR.nd rfl (by first | exact .inl rfl | exact .inr rfl) (bH G__law_net (hc.room.mono (by decide)) rfl (aj (sn 0) (aj (sn 1) ak))))
   (au (bz (i:=5) rfl cR.nd rfl (by first | exact .inl rfl | exact .inr rfl) (bG cA du rfl n_tuple eF (aj (aa (bU (own:=["_law_k"]) (fr:=[0,1]) hc.calm (iW rfl n_range (aj (sn 3) ak)) (CScope.of (by rfl)) (by decide) (fun _ _ _ _ _=>(az (i:=0) rfl (cX (by rfl)) rfl (by first | exact .inl rfl | exact .inr rfl))) (fun _ _ _ _ _=>bQ) (fun _ _ _ _ _=>(bH G__law_work (hc.room.mono (by decide)) rfl (aj (sn 1) (aj (sn 2) ak)))))) ak)))
   (au (bz (i:=6) rfl cR.nd rfl (by first | exact .inl rfl | exact .inr rfl) (bH G__law_store (hc.room.mono (by decide)) rfl (aj (sn 0) (aj (sn 1) ak))))
   (aG (aU (iI (aj (aa (sv 4)) (aj (aa (sv 5)) (aj (aa (sv 6)) (aj (aa (bG cA du rfl n_tuple eF (aj (aa (bU (own:=["_law_k"]) (fr:=[0,1]) hc.calm (iW rfl n_range (aj (sn 2) ak)) (CScope.of (by rfl)) (by decide) (fun _ _ _ _ _=>(az (i:=0) rfl (cX (by rfl)) rfl (by first | exact .inl rfl | exact .inr rfl))) (fun _ _ _ _ _=>bQ) (fun _ _ _ _ _=>(bH G__law_wants (hc.room.mono (by decide)) rfl (aj (sn 1) (aj (sn 2) ak)))))) ak))) ak)))))))))))))
theorem bx:FnScope ["_law_house_here", "_law_net_here", "_law_works", "_law_store_here", "_law_hours", "_law_rows", "_law_line", "_law_place", "_law_least", "_law_keep", "_law_pieces", "_law_start", "_law_stay", "_law_rest", "_law_was", "_law_words", "_law_wants_here"] ["_law_house_here"] (aF (top 47)):=⟨rfl,rfl,rfl,by decide +kernel,rfl,by decide +kernel,by decide +kernel⟩
theorem wL (T:Known K mg "_law_text" (top 47) ["_law_house_here"]) (ht:P.given.tree=none) (n_int:mg "int" = none) (n_str:mg "str" = none):Prm P w K mg base "_law_text" 35 ["_law_house_here"] (aW K 1 false fQ):=by
 refine T.sem bx ht ?_
 rintro _ cdv f A outer s H E rfl hc
 exact au (jR (sv 0) (gH hc.calm (aB (az (i:=1) rfl bx.nd rfl (by first | exact .inl rfl | exact .inr rfl)) (aB (az (i:=2) rfl bx.nd rfl (by first | exact .inl rfl | exact .inr rfl)) (aB (az (i:=3) rfl bx.nd rfl (by first | exact .inl rfl | exact .inr rfl)) (aB (az (i:=4) rfl bx.nd rfl (by first | exact .inl rfl | exact .inr rfl)) fD)))) (goN [1,2,3,4])))
   (au (bz (i:=5) rfl bx.nd rfl (by first | exact .inl rfl | exact .inr rfl) (gq (aj (aa (aN aO aX (aa (cg)) (aa (bG dI gR rfl n_str kI (aj (aa (cH (sn 1) (aa (aq)) (fun _ _=>rfl))) ak))))) ak)))
   (au (jT PassesOwn.never hc.calm (cD (cH (sn 1) (aa (aq)) (fun _ _=>rfl))) (az (i:=6) rfl bx.nd rfl (by first | exact .inl rfl | exact .inr rfl))
   (aG (gh (ju (i:=5) PySem.F.slot_list_append PySem.F.type_list_append fH fZ rfl (by first | exact .inl rfl | exact .inr (.inl rfl) | exact .inr (.inr rfl)) (aj (aa (aN aO aX (aa (cg)) (aa (iH (aj (aa (bU (own:=["_law_number"]) (fr:=[]) hc.calm (cD (sv 6)) (CScope.of (by rfl)) (by decide) (fun _ _ _ _ _=>(az (i:=0) rfl (cX (by rfl)) rfl (by first | exact .inl rfl | exact .inr rfl))) (fun _ _ _ _ _=>bQ) (fun _ _ _ _ _=>(bG dI gR rfl n_str kI (aj (sn 0) ak))))) ak))))) ak)))))
   (au (jT PassesOwn.never hc.calm (cD (sv 2)) (gH hc.calm (aB (az (i:=7) rfl bx.nd rfl (by first | exact .inl rfl | exact .inr rfl)) (aB (az (i:=8) rfl bx.nd rfl (by first | exact .inl rfl | exact .inr rfl)) (aB (az (i:=9) rfl bx.nd rfl (by first | exact .inl rfl | exact .inr rfl)) (aB (az (i:=10) rfl bx.nd rfl (by first | exact .inl rfl | exact .inr rfl)) (aB (az (i:=11) rfl bx.nd rfl (by first | exact .inl rfl | exact .inr rfl)) (aB (az (i:=12) rfl bx.nd rfl (by first | exact .inl rfl | exact .inr rfl)) (aB (az (i:=13) rfl bx.nd rfl (by first | exact .inl rfl | exact .inr rfl)) (aB (az (i:=14) rfl bx.nd rfl (by first | exact .inl rfl | exact .inr rfl)) fD)))))))) (goN [7,8,9,10,11,12,13,14]))
   (au (bz (i:=15) rfl bx.nd rfl (by first | exact .inl rfl | exact .inr rfl) (aN aO aX (aa (bU (own:=["_law_number"]) (fr:=[]) hc.calm (cD (iI (aj (aa (sv 7)) (aj (aa (sv 8)) (aj (aa (sv 9)) (aj (aa (sv 11)) (aj (aa (sv 12)) (aj (aa (sv 13)) ak)))))))) (CScope.of (by rfl)) (by decide) (fun _ _ _ _ _=>(az (i:=0) rfl (cX (by rfl)) rfl (by first | exact .inl rfl | exact .inr rfl))) (fun _ _ _ _ _=>bQ) (fun _ _ _ _ _=>(bG dI gR rfl n_str kI (aj (sn 0) ak))))) (aa (gq (aj (aa (fB jM iu (aa (gq (aj (aa (cg)) (aj (aa (cg)) ak)))) (aa (bG pR rZ rfl n_int pQ (aj (sn 14) ak))) (fun _ _=>rfl))) ak)))))
   (au (bz (i:=15) rfl bx.nd rfl (by first | exact .inl rfl | exact .inr rfl) (aN aO aX (sn 15) (aa (bU (own:=["_law_width", "_law_price"]) (fr:=[]) hc.calm (cD (sv 10)) (CScope.of (by rfl)) (by decide) (fun _ _ _ _ _=>(gH hc.calm (aB (az (i:=0) rfl (cX (by rfl)) rfl (by first | exact .inl rfl | exact .inr rfl)) (aB (az (i:=1) rfl (cX (by rfl)) rfl (by first | exact .inl rfl | exact .inr rfl)) fD)) (goN [0,1]))) (fun _ _ _ _ _=>bQ) (fun _ _ _ _ _=>(aN aO aX (aa (aN aO aX (aa (bG dI gR rfl n_str kI (aj (sn 0) ak))) (aa (cg)))) (aa (bG dI gR rfl n_str kI (aj (sn 1) ak)))))))))
   (aG (gh (ju (i:=5) PySem.F.slot_list_append PySem.F.type_list_append fH fZ rfl (by first | exact .inl rfl | exact .inr (.inl rfl) | exact .inr (.inr rfl)) (aj (aa (aN aO aX (aa (cg)) (aa (iH (aj (sn 15) ak))))) ak)))))))
   (au (cO (dm Dn vf (sn 3) (aa (mJ)) (cB _))
   (aG (gh (ju (i:=5) PySem.F.slot_list_append PySem.F.type_list_append fH fZ rfl (by first | exact .inl rfl | exact .inr (.inl rfl) | exact .inr (.inr rfl)) (aj (aa (aN aO aX (aa (cg)) (aa (iH (aj (aa (bU (own:=["_law_number"]) (fr:=[]) hc.calm (cD (sv 3)) (CScope.of (by rfl)) (by decide) (fun _ _ _ _ _=>(az (i:=0) rfl (cX (by rfl)) rfl (by first | exact .inl rfl | exact .inr rfl))) (fun _ _ _ _ _=>bQ) (fun _ _ _ _ _=>(bG dI gR rfl n_str kI (aj (sn 0) ak))))) ak))))) ak))))
   (bT))
   (au (jT PassesOwn.never hc.calm (cD (sv 4)) (az (i:=16) rfl bx.nd rfl (by first | exact .inl rfl | exact .inr rfl))
   (aG (gh (ju (i:=5) PySem.F.slot_list_append PySem.F.type_list_append fH fZ rfl (by first | exact .inl rfl | exact .inr (.inl rfl) | exact .inr (.inr rfl)) (aj (aa (iH (aj (aa (aN aO aX (aa (gq (aj (aa (cg)) ak))) (aa (bU (own:=["_law_want"]) (fr:=[]) hc.calm (cD (sv 16)) (CScope.of (by rfl)) (by decide) (fun _ _ _ _ _=>(az (i:=0) rfl (cX (by rfl)) rfl (by first | exact .inl rfl | exact .inr rfl))) (fun _ _ _ _ _=>bQ) (fun _ _ _ _ _=>(iH (aj (aa (bU (own:=["_law_number"]) (fr:=[]) hc.calm (cD (sv 0)) (CScope.of (by rfl)) (by decide) (fun _ _ _ _ _=>(az (i:=0) rfl (cX (by rfl)) rfl (by first | exact .inl rfl | exact .inr rfl))) (fun _ _ _ _ _=>bQ) (fun _ _ _ _ _=>(bG dI gR rfl n_str kI (aj (sn 0) ak))))) ak))))))) ak))) ak)))))
   (aG (aU (iH (aj (sn 5) ak)))))))))
theorem lF:FnScope ["_law_thing"] ["_law_thing"] (aF (top 48)):=⟨rfl,rfl,rfl,by decide +kernel,rfl,by decide +kernel,by decide +kernel⟩
theorem lC (T:Known K mg "_law_is_plain" (top 48) ["_law_thing"]) (ht:P.given.tree=none) (n_all:mg "all" = none) (n_int:mg "int" = none) (n_isinstance:mg "isinstance" = none) (n_tuple:mg "tuple" = none):∀ m:Nat,Prm P w K mg base "_law_is_plain" (35+m) ["_law_thing"] (aW K 1 false (bB m))
 | 0=>T.sem lF ht (by rintro _ cdv f A outer s H E rfl hc;exact JH)
 | m+1=>by
  have G__law_is_plain:=lC T ht n_all n_int n_isinstance n_tuple m
  refine T.sem (k:=35+m) lF ht ?_
  rintro _ cdv f A outer s H E rfl hc
  exact au (cO (bZ (aa (bA ig ir rfl n_isinstance cQ (aj (sn 0) (aj (aa (pI rfl n_tuple eF)) ak)))))
    (aG (aU (bA (jh hc.calm) ji rfl n_all mq (aj (aa (bU (own:=["_law_one"]) (fr:=[]) hc.calm (cD (sv 0)) (CScope.of (by rfl)) (by decide) (fun _ _ _ _ _=>(az (i:=0) rfl (cX (by rfl)) rfl (by first | exact .inl rfl | exact .inr rfl))) (fun _ _ _ _ _=>bQ) (fun _ _ _ _ _=>(bu G__law_is_plain (hc.room.mono (by omega)) rfl (aj (sn 0) ak))))) ak))))
    (bT))
    (aG (aU (Qa (kY Br su (sn 0) (aa (mJ)) (cB _)) (gC (bA ig ir rfl n_isinstance cQ (aj (sn 0) (aj (aa (pI rfl n_int pQ)) ak)))))))
theorem qw:FnScope ["_law_script", "_law_k", "_law_house_here", "_law_text_here", "_law_turn", "_law_found"] ["_law_script"] (aF (top 49)):=⟨rfl,rfl,rfl,by decide +kernel,rfl,by decide +kernel,by decide +kernel⟩
theorem Ry {f:Addr} {fd:FuncData} (T:Fun K "law" "law" (top 49) f fd) (ht:P.given.tree=none) (n_bool:mg "bool" = none) (n_isinstance:mg "isinstance" = none) (n_len:mg "len" = none) (n_max:mg "max" = none) (n_min:mg "min" = none) (n_range:mg "range" = none) (n_str:mg "str" = none) (G__law_house:Prm P w K mg base "_law_house" 37 ["_law_bag_here"] (aW K 1 true cZ)) (G__law_bag:Prm P w K mg base "_law_bag" 35 ["_law_script", "_law_at"] (aW K 2 false iR)) (G_show_house:Prm P w K mg base "show_house" 37 ["house"] (aW K 1 false dN)) (G__law_text:Prm P w K mg base "_law_text" 35 ["_law_house_here"] (aW K 1 false fQ)) (G_read_house:Prm P w K mg base "read_house" 41 ["text"] (aW K 1 false dM)) (G__law_is_plain:Prm P w K mg base "_law_is_plain" 43 ["_law_thing"] (aW K 1 false (bB 8))):FnOk P w K mg base CX0 44 f fd ["_law_script"] (aW K 1 false jD):=by
 refine T.sem qw ht ?_
 rintro _ cdv f A outer s H E rfl hc
 exact au (jT PassesOwn.never hc.calm (iW rfl n_range (aj (aa (bA (Eo hc.calm) GZ rfl n_max Qm (aj (aa (aq)) (aj (aa (bA (uV hc.calm) yG rfl n_min GD (aj (aa (aq)) (aj (aa (bA dH iw rfl n_len lL (aj (sn 0) ak))) ak)))) ak)))) ak)) (az (i:=1) rfl qw.nd rfl (by first | exact .inl rfl | exact .inr rfl))
   (DY [2,3] (au (bz (i:=2) rfl qw.nd rfl (by first | exact .inl rfl | exact .inr rfl) (SN G__law_house (hc.room.mono (by decide)) rfl (aj (aa (bu G__law_bag (hc.room.mono (by decide)) rfl (aj (sn 0) (aj (sn 1) ak)))) ak)))
   (au (bz (i:=3) rfl qw.nd rfl (by first | exact .inl rfl | exact .inr rfl) (bu G_show_house (hc.room.mono (by decide)) rfl (aj (sn 2) ak)))
   (au (cO (SW.b (iJ (cC (bZ (aa (bA ig ir rfl n_isinstance cQ (aj (sn 3) (aj (aa (pI rfl n_str kI)) ak)))))) (gJ (dm (qj hc.room.units) mX (sn 3) (aa (bu G__law_text (hc.room.mono (by decide)) rfl (aj (sn 2) ak))) (cB _)))))
   (aG (aU (gj)))
   (bT))
   (aG (jT PassesOwn.never hc.calm (iW rfl n_range (aj (aa (aq)) ak)) (az (i:=4) rfl qw.nd rfl (by first | exact .inl rfl | exact .inr rfl))
   (DY [5] (au (bz (i:=5) rfl qw.nd rfl (by first | exact .inl rfl | exact .inr rfl) (bu G_read_house (hc.room.mono (by decide)) rfl (aj (sn 3) ak)))
   (au (cO (SW.b (iJ (dm (qj hc.room.units) mX (sn 5) (sn 2) (cB _)) (gJ (cC (bZ (aa (bu G__law_is_plain (hc.room.mono (by decide)) rfl (aj (sn 5) ak))))))))
   (aG (aU (gj)))
   (bT))
   (aG (cO (dm (qj hc.room.units) mX (aa (bU (own:=["_law_work_here"]) (fr:=[]) hc.calm (cD (cH (sn 5) (aa (aq)) (fun _ _=>rfl))) (CScope.of (by rfl)) (by decide) (fun _ _ _ _ _=>(az (i:=0) rfl (cX (by rfl)) rfl (by first | exact .inl rfl | exact .inr rfl))) (fun _ _ _ _ _=>bQ) (fun _ _ _ _ _=>(bA ig ir rfl n_isinstance cQ (aj (aa (cH (sn 0) (aa (aq)) (fun _ _=>rfl))) (aj (aa (pI rfl n_bool vQ)) ak)))))) (aa (bU (own:=["_law_work_here"]) (fr:=[]) hc.calm (cD (cH (sn 2) (aa (aq)) (fun _ _=>rfl))) (CScope.of (by rfl)) (by decide) (fun _ _ _ _ _=>(az (i:=0) rfl (cX (by rfl)) rfl (by first | exact .inl rfl | exact .inr rfl))) (fun _ _ _ _ _=>bQ) (fun _ _ _ _ _=>(gj)))) (cB _))
   (aG (aU (gj)))
   (bT)))))))))))))
   (aG (aU (gj)))
theorem Ks {f:Addr} {fd:FuncData} (TL:Fun K "law" "law" (top 49) f fd) (ht:P.given.tree=none)
  (T_is_whole_number:Known K mg "is_whole_number" (top 5) ["thing"])
  (T_is_within:Known K mg "is_within" (top 6) ["thing", "low", "high"])
  (T_is_row:Known K mg "is_row" (top 7) ["thing", "least", "most"])
  (T_is_line:Known K mg "is_line" (top 9) ["thing", "many"])
  (T_are_joined:Known K mg "are_joined" (top 10) ["many", "lines"])
  (T_is_net:Known K mg "is_net" (top 11) ["thing"])
  (T_is_piece:Known K mg "is_piece" (top 13) ["thing"])
  (T_are_pieces:Known K mg "are_pieces" (top 14) ["thing"])
  (T_is_work:Known K mg "is_work" (top 15) ["thing", "many"])
  (T_is_store:Known K mg "is_store" (top 16) ["thing", "many"])
  (T_is_want:Known K mg "is_want" (top 17) ["thing", "many"])
  (T_are_wants:Known K mg "are_wants" (top 18) ["thing", "many"])
  (T_is_house:Known K mg "is_house" (top 19) ["thing"])
  (T_is_number:Known K mg "is_number" (top 23) ["word"])
  (T_numbers_of:Known K mg "numbers_of" (top 24) ["words"])
  (T_joined:Known K mg "joined" (top 26) ["numbers", "sign"])
  (T_show_work:Known K mg "show_work" (top 27) ["work"])
  (T_show_house:Known K mg "show_house" (top 28) ["house"])
  (T_read_numbers:Known K mg "read_numbers" (top 29) ["words", "many"])
  (T_read_net:Known K mg "read_net" (top 30) ["words"])
  (T_read_line:Known K mg "read_line" (top 31) ["words"])
  (T_read_work:Known K mg "read_work" (top 32) ["words"])
  (T_read_store:Known K mg "read_store" (top 33) ["words"])
  (T_read_hour:Known K mg "read_hour" (top 34) ["words"])
  (T_read_rows:Known K mg "read_rows" (top 37) ["text"])
  (T_read_house:Known K mg "read_house" (top 38) ["text"])
  (T__law_bag:Known K mg "_law_bag" (top 40) ["_law_script", "_law_at"])
  (T__law_take:Known K mg "_law_take" (top 41) ["_law_bag_here", "_law_many"])
  (T__law_net:Known K mg "_law_net" (top 42) ["_law_bag_here", "_law_many"])
  (T__law_work:Known K mg "_law_work" (top 43) ["_law_bag_here", "_law_many"])
  (T__law_wants:Known K mg "_law_wants" (top 44) ["_law_bag_here", "_law_many"])
  (T__law_store:Known K mg "_law_store" (top 45) ["_law_bag_here", "_law_many"])
  (T__law_house:Known K mg "_law_house" (top 46) ["_law_bag_here"])
  (T__law_text:Known K mg "_law_text" (top 47) ["_law_house_here"])
  (T__law_is_plain:Known K mg "_law_is_plain" (top 48) ["_law_thing"])
  (c_MOST_FIGURES:∃ t,mg "MOST_FIGURES" = some (.int 40 t)) (d_READERS:Ej P w K "READERS" [("net", "read_net"),("line", "read_line"),("work", "read_work"),("store", "read_store"),("hour", "read_hour")]) (f_READERS:FnAt K mg "READERS") (g_ORDER:Ek K mg "ORDER" ["net", "line", "work", "store", "hour"]) (s_FIGURES:∃ t,mg "FIGURES" = some (.str "0123456789" t)) (n_abs:mg "abs" = none) (n_all:mg "all" = none) (n_bool:mg "bool" = none) (n_int:mg "int" = none) (n_isinstance:mg "isinstance" = none) (n_len:mg "len" = none) (n_list:mg "list" = none) (n_max:mg "max" = none) (n_min:mg "min" = none) (n_range:mg "range" = none) (n_set:mg "set" = none) (n_str:mg "str" = none) (n_tuple:mg "tuple" = none) (base:Heap):FnOk P w K mg base CX0 44 f fd ["_law_script"] (aW K 1 false jD):=by
 have G_is_whole_number:=nW (P:=P) (w:=w) (base:=base) T_is_whole_number ht n_bool n_int n_isinstance
 have G_is_within:=wQ (P:=P) (w:=w) (base:=base) T_is_within ht G_is_whole_number
 have G_is_row:=Fv (P:=P) (w:=w) (base:=base) T_is_row ht n_isinstance n_len n_tuple
 have G_is_line:=Bl (P:=P) (w:=w) (base:=base) T_is_line ht G_is_row G_is_within
 have G_are_joined:=uC (P:=P) (w:=w) (base:=base) T_are_joined ht n_len n_list n_range n_set
 have G_is_net:=Ft (P:=P) (w:=w) (base:=base) T_is_net ht n_all G_is_row G_is_within G_is_line G_are_joined
 have G_is_piece:=zu (P:=P) (w:=w) (base:=base) T_is_piece ht G_is_row G_is_within
 have G_are_pieces:=uD (P:=P) (w:=w) (base:=base) T_are_pieces ht n_all G_is_row G_is_piece
 have G_is_work:=Bo (P:=P) (w:=w) (base:=base) T_is_work ht n_bool n_isinstance G_is_row G_is_within G_are_pieces
 have G_is_store:=zx (P:=P) (w:=w) (base:=base) T_is_store ht G_is_row G_is_within
 have G_is_want:=Bm (P:=P) (w:=w) (base:=base) T_is_want ht G_is_row G_is_within
 have G_are_wants:=wN (P:=P) (w:=w) (base:=base) T_are_wants ht n_all G_is_row G_is_want
 have G_is_house:=zr (P:=P) (w:=w) (base:=base) T_is_house ht n_all G_is_row G_is_net G_is_work G_is_store G_are_wants
 have G_is_number:=wO (P:=P) (w:=w) (base:=base) T_is_number ht c_MOST_FIGURES s_FIGURES n_all n_len
 have G_numbers_of:=uE (P:=P) (w:=w) (base:=base) T_numbers_of ht n_all n_int G_is_number
 have G_joined:=Fw (P:=P) (w:=w) (base:=base) T_joined ht n_str
 have G_show_work:=wY (P:=P) (w:=w) (base:=base) T_show_work ht G_joined
 have G_show_house:=uH (P:=P) (w:=w) (base:=base) T_show_house ht G_joined G_show_work
 have G_read_numbers:=qR (P:=P) (w:=w) (base:=base) T_read_numbers ht n_len n_tuple G_numbers_of
 have G_read_net:=zy (P:=P) (w:=w) (base:=base) T_read_net ht G_read_numbers
 have G_read_line:=wV (P:=P) (w:=w) (base:=base) T_read_line ht G_read_numbers
 have G_read_work:=wX (P:=P) (w:=w) (base:=base) T_read_work ht n_len n_tuple G_read_numbers
 have G_read_store:=uG (P:=P) (w:=w) (base:=base) T_read_store ht G_read_numbers
 have G_read_hour:=wU (P:=P) (w:=w) (base:=base) T_read_hour ht n_tuple G_read_numbers
 have G_read_rows:=wW (P:=P) (w:=w) (base:=base) T_read_rows ht d_READERS f_READERS g_ORDER n_len G_read_net G_read_line G_read_work G_read_store G_read_hour
 have G_read_house:=uF (P:=P) (w:=w) (base:=base) T_read_house ht n_isinstance n_str n_tuple G_read_rows G_is_house
 have G__law_bag:=zp (P:=P) (w:=w) (base:=base) T__law_bag ht n_abs n_len n_min n_range
 have G__law_take:=wK (P:=P) (w:=w) (base:=base) T__law_take ht
 have G__law_net:=zq (P:=P) (w:=w) (base:=base) T__law_net ht n_int n_range n_tuple G__law_take
 have G__law_work:=wM (P:=P) (w:=w) (base:=base) T__law_work ht n_tuple G__law_take
 have G__law_wants:=uB (P:=P) (w:=w) (base:=base) T__law_wants ht n_int n_range n_tuple G__law_take
 have G__law_store:=uA (P:=P) (w:=w) (base:=base) T__law_store ht G__law_take
 have G__law_house:=uz (P:=P) (w:=w) (base:=base) T__law_house ht n_range n_tuple G__law_take G__law_net G__law_work G__law_store G__law_wants
 have G__law_text:=wL (P:=P) (w:=w) (base:=base) T__law_text ht n_int n_str
 have G__law_is_plain:=lC (P:=P) (w:=w) (base:=base) T__law_is_plain ht n_all n_int n_isinstance n_tuple 8
 exact Ry TL ht n_bool n_isinstance n_len n_max n_min n_range n_str G__law_house G__law_bag G_show_house G__law_text G_read_house G__law_is_plain
end
theorem QW {K:PySem.W.Frag} {mg:Str->Option Value} {h:Heap} {fa f:Addr} (X:K.In h) (G:h.Ns mainGlobals mg) (hfa:mg "law" = some (.ref fa)) {oc:Value} {od an:Option Addr} {osl:Array (Option Value)} {kV doc pm cdv ct:Value}
  (a:PySem.W.nsIn K mainGlobals "law" = some (some (.ref f))) (l:K.lookup f=some ⟨oc,od,.func (PySem.W.fnOf "law" "law" (jy (top 49)) (fY (top 49)) (aF (top 49)) .none kV doc pm an cdv ct),osl⟩)
  (c:PySem.W.codeIn K cdv "law" = true) (k:PySem.W.keepIn K (.ref f)=true):∃ fd:FuncData,L2.Fun K "law" "law" (top 49) fa fd ∧ ∀ (s:Shared) (u:Value),BindsTo s fd ⟨[u],[]⟩ [("_law_script",u)]:=by
 have e:=hfa.symm.trans (PySem.W.mg_of X G a)
 cases e
 exact ⟨_,Ay l c k,fun s v=>.of_eq rfl⟩
end K70
namespace L2
open PySem PySem.Spec PyProof.Rows
theorem str_mk {mg:Str->Option Value} {x y:Str} {v:Value} (h:mg x=some v) (e:∃ t,v = .str y t):∃ t,mg x=some (.str y t):=e.elim fun t z=>⟨t,z ▸ h⟩
theorem Lp {K:PySem.W.Frag} {h:Heap} {mg:Str->Option Value} {x:Str} {a:Addr} {n:Nat} (ts:List (Str×Nat)) (X:K.In h) (G:h.Ns mainGlobals mg) (e:PySem.W.nsIn K mainGlobals x=some (some (.ref a)))
  (l:K.lookup a=some ⟨.type "tuple",none,.seq (ts.map fun t=>Value.str t.1 t.2).toArray n,#[]⟩) (hs:ts.length<=1000):Ek K mg x (ts.map (·.1)):=
 ⟨a,PySem.W.mg_of X G e,_,_,n,l,rfl,rfl,rfl,by rw [sizeLine_eq,List.size_toArray,List.length_map];omega,qD ts⟩
noncomputable def Gy (K:PySem.W.Frag):List (Str×Str×Addr×Nat)->Prop
 | []=>True
 | t :: ts=>PySem.W.nsIn K mainGlobals t.2.1=some (some (.ref t.2.2.1))∧Gy K ts
theorem Py {K:PySem.W.Frag}:∀ {ts:List (Str×Str×Addr×Nat)},Gy K ts -> ∀ z y,(ts.map fun t=>(t.1,t.2.1)).lookup z=some y -> ∃ a,(ts.map fun t=>(t.1,t.2.2.1)).lookup z=some a∧PySem.W.nsIn K mainGlobals y=some (some (.ref a))
 | [],_,z,y,h=>by cases h
 | t :: ts,hn,z,y,h=>by
  rw [List.map_cons,List.lookup_cons] at h ⊢
  cases c:z==t.1 with
  | true=>
   rw [c] at h
   cases h
   exact ⟨_,rfl,hn.1⟩
  | false=>
   rw [c] at h
   exact Py hn.2 z y h
theorem Df:∀ (ts:List (Str×Str×Addr×Nat)) (z:Str),((ts.map fun t=>(t.1,t.2.1)).lookup z).isSome=((ts.map fun t=>(t.1,t.2.2.1)).lookup z).isSome
 | [],z=>rfl
 | t :: ts,z=>by
  rw [List.map_cons,List.lookup_cons,List.map_cons,List.lookup_cons]
  cases c:z==t.1 with
  | true=>rfl
  | false=>exact Df ts z
theorem zF (P:Program) (w:World):∀ ts:List (Str×Str×Addr×Nat),Pairs (dB P w) (ts.map fun t=>(⟨PyData.keyHash w.params t.1,.str t.1 t.2.2.2,.ref t.2.2.1⟩:DictEntry)) (fsV (ts.map fun t=>(t.1,t.2.2.1)))
 | []=>.nil
 | t :: ts=>.cons (mC P w t.1 t.2.2.2) rfl (zF P w ts)
theorem Lj {P:Program} {w:World} {K:PySem.W.Frag} {x:Str} {a:Addr} {n:Nat} (ts:List (Str×Str×Addr×Nat)) (e:PySem.W.nsIn K mainGlobals x=some (some (.ref a))) (ne:(a==sysModules)=false)
  (l:K.lookup a=some ⟨.type "dict",none,.dict (ts.map fun t=>(⟨PyData.keyHash w.params t.1,.str t.1 t.2.2.2,.ref t.2.2.1⟩:DictEntry)).toArray n,#[]⟩) (nd:(ts.map (·.1)).Nodup) (hn:Gy K ts):Ej P w K x (ts.map fun t=>(t.1,t.2.1)):=by
 refine ⟨ts.map fun t=>(t.1,t.2.2.1),⟨a,_,e,ne,l,_,n,⟨rfl,rfl,rfl⟩,rfl,?_,?_,?_⟩,Py hn,Df ts⟩
 ·intro en he
  obtain ⟨t,ht,rfl⟩:=List.mem_map.mp (List.mem_toArray.mp he)
  exact ⟨.inr t.1,mC P w _ _,rfl⟩
 ·exact zF P w ts
 ·have:(fsV (ts.map fun t=>(t.1,t.2.2.1))).map (·.1)=(ts.map (·.1)).map Sum.inr:=by
   unfold fsV
   simp only [List.map_map]
   rfl
  rw [this]
  exact List.Pairwise.map _ (fun a b h z=>h (Sum.inr.inj z)) nd
end L2
namespace L2
theorem ofS {n:Nat} {P:List PySem.Value->Prop} (h:∀ a us,us.length=n->P (a :: us)) (us:List PySem.Value) (e:us.length=n+1):P us:=by
 cases us with
 | nil=>cases e
 | cons a t=>exact h a t (Nat.succ.inj e)
theorem Wx {P:List PySem.Value->Prop} (h:P []) (us:List PySem.Value) (e:us.length=0):P us:=List.length_eq_zero_iff.mp e ▸ h
theorem lB {P:List PySem.Value->Prop} (h:∀ a,P [a]):∀ us:List PySem.Value,us.length=1->P us:=ofS fun a=>Wx (P:=fun us=>P (a :: us)) (h a)
theorem nU {P:List PySem.Value->Prop} (h:∀ a b,P [a,b]):∀ us:List PySem.Value,us.length=2->P us:=ofS fun a=>lB (P:=fun us=>P (a :: us)) (h a)
theorem Rw {P:List PySem.Value->Prop} (h:∀ a b c,P [a,b,c]):∀ us:List PySem.Value,us.length=3->P us:=ofS fun a=>nU (P:=fun us=>P (a :: us)) (h a)
end L2
set_option hygiene false in
local macro_rules
 |`(tactic|exists 1)=>`(tactic|(dsimp only [L2.KOf];refine' L2.bc KX G ?a ?l ?c ?k fun _ _ _ _ _ _=>L2.lB fun _=>rfl;(case a=>k_is);(case l=>k_is);(case c=>k_is);(case k=>k_is)))
 |`(tactic|exists 2)=>`(tactic|(dsimp only [L2.KOf];refine' L2.bc KX G ?a ?l ?c ?k fun _ _ _ _ _ _=>L2.Rw fun _ _ _=>rfl;(case a=>k_is);(case l=>k_is);(case c=>k_is);(case k=>k_is)))
 |`(tactic|exists 3)=>`(tactic|(dsimp only [L2.KOf];refine' L2.bc KX G ?a ?l ?c ?k fun _ _ _ _ _ _=>L2.nU fun _ _=>rfl;(case a=>k_is);(case l=>k_is);(case c=>k_is);(case k=>k_is)))
open PySem PySem.W PyProof.Rows
theorem L2.cst_mk {mg:Str->Option Value} {x:Str} {i:Int} {v:Value} (h:mg x=some v) (e:∃ t,v = .int i t):∃ t,mg x=some (.int i t):=e.elim fun t z=>⟨t,z ▸ h⟩
set_option maxRecDepth 100000 in
set_option maxHeartbeats 0 in
theorem PySem.Challenge.cw_mainskeep_k70_houses_written_holds : PySem.Challenge.rw_mainskeep_k70_houses_written.Holds := by
 w_on;refine PySem.W.holds_law K70.said fun said=>?_
 refine holds_open (q:=K70.q) (loose:=["READERS"]) (XP:=XL K70.q []) (YP:=Hook.says (PySem.W.kHook K70.heap K70.addrs K70.jE)) (d:=K70.sX) (kwd:=[]) K70.left (Hook.of (PySem.W.kHook K70.heap K70.addrs K70.jE)) (Hook.keeps (PySem.W.kHook K70.heap K70.addrs K70.jE)) (fun s e=>xl_of s (Bool.and_eq_true_iff.mp e).1) XL.keeps K70.Mp K70.Mq rfl (fun s e=>recFacts_of (Bool.and_eq_true_iff.mp e).2) rfl (by first | assumption | decide +kernel) (by decide +kernel) ⟨rfl,rfl,rfl,rfl,rfl,by decide +kernel⟩ ?hw ?hc
 (case hw=>w_witness2)
 k_fill
 refine L2.Kg (l:=PySem.Challenge.rw_mainskeep_k70_houses_written) (k:=44) (x:= "_law_script") (sf:=Z.jD) rfl rfl (by decide +kernel) ⟨rfl,by decide,by decide,rfl⟩ (fun w h Y=>PySem.W.kIn_of Y) Z.qT ?F
 case F=>
  intro w mg fa h KX G hmg
  have T_is_whole_number:L2.Known (L2.KOf KX) mg "is_whole_number" (K70.top 5) ["thing"]:=by exists 1
  have T_is_within:L2.Known (L2.KOf KX) mg "is_within" (K70.top 6) ["thing", "low", "high"]:=by exists 2
  have T_is_row:L2.Known (L2.KOf KX) mg "is_row" (K70.top 7) ["thing", "least", "most"]:=by exists 2
  have T_is_line:L2.Known (L2.KOf KX) mg "is_line" (K70.top 9) ["thing", "many"]:=by exists 3
  have T_are_joined:L2.Known (L2.KOf KX) mg "are_joined" (K70.top 10) ["many", "lines"]:=by exists 3
  have T_is_net:L2.Known (L2.KOf KX) mg "is_net" (K70.top 11) ["thing"]:=by exists 1
  have T_is_piece:L2.Known (L2.KOf KX) mg "is_piece" (K70.top 13) ["thing"]:=by exists 1
  have T_are_pieces:L2.Known (L2.KOf KX) mg "are_pieces" (K70.top 14) ["thing"]:=by exists 1
  have T_is_work:L2.Known (L2.KOf KX) mg "is_work" (K70.top 15) ["thing", "many"]:=by exists 3
  have T_is_store:L2.Known (L2.KOf KX) mg "is_store" (K70.top 16) ["thing", "many"]:=by exists 3
  have T_is_want:L2.Known (L2.KOf KX) mg "is_want" (K70.top 17) ["thing", "many"]:=by exists 3
  have T_are_wants:L2.Known (L2.KOf KX) mg "are_wants" (K70.top 18) ["thing", "many"]:=by exists 3
  have T_is_house:L2.Known (L2.KOf KX) mg "is_house" (K70.top 19) ["thing"]:=by exists 1
  have T_is_number:L2.Known (L2.KOf KX) mg "is_number" (K70.top 23) ["word"]:=by exists 1
  have T_numbers_of:L2.Known (L2.KOf KX) mg "numbers_of" (K70.top 24) ["words"]:=by exists 1
  have T_joined:L2.Known (L2.KOf KX) mg "joined" (K70.top 26) ["numbers", "sign"]:=by exists 3
  have T_show_work:L2.Known (L2.KOf KX) mg "show_work" (K70.top 27) ["work"]:=by exists 1
  have T_show_house:L2.Known (L2.KOf KX) mg "show_house" (K70.top 28) ["house"]:=by exists 1
  have T_read_numbers:L2.Known (L2.KOf KX) mg "read_numbers" (K70.top 29) ["words", "many"]:=by exists 3
  have T_read_net:L2.Known (L2.KOf KX) mg "read_net" (K70.top 30) ["words"]:=by exists 1
  have T_read_line:L2.Known (L2.KOf KX) mg "read_line" (K70.top 31) ["words"]:=by exists 1
  have T_read_work:L2.Known (L2.KOf KX) mg "read_work" (K70.top 32) ["words"]:=by exists 1
  have T_read_store:L2.Known (L2.KOf KX) mg "read_store" (K70.top 33) ["words"]:=by exists 1
  have T_read_hour:L2.Known (L2.KOf KX) mg "read_hour" (K70.top 34) ["words"]:=by exists 1
  have T_read_rows:L2.Known (L2.KOf KX) mg "read_rows" (K70.top 37) ["text"]:=by exists 1
  have T_read_house:L2.Known (L2.KOf KX) mg "read_house" (K70.top 38) ["text"]:=by exists 1
  have T__law_bag:L2.Known (L2.KOf KX) mg "_law_bag" (K70.top 40) ["_law_script", "_law_at"]:=by exists 3
  have T__law_take:L2.Known (L2.KOf KX) mg "_law_take" (K70.top 41) ["_law_bag_here", "_law_many"]:=by exists 3
  have T__law_net:L2.Known (L2.KOf KX) mg "_law_net" (K70.top 42) ["_law_bag_here", "_law_many"]:=by exists 3
  have T__law_work:L2.Known (L2.KOf KX) mg "_law_work" (K70.top 43) ["_law_bag_here", "_law_many"]:=by exists 3
  have T__law_wants:L2.Known (L2.KOf KX) mg "_law_wants" (K70.top 44) ["_law_bag_here", "_law_many"]:=by exists 3
  have T__law_store:L2.Known (L2.KOf KX) mg "_law_store" (K70.top 45) ["_law_bag_here", "_law_many"]:=by exists 3
  have T__law_house:L2.Known (L2.KOf KX) mg "_law_house" (K70.top 46) ["_law_bag_here"]:=by exists 1
  have T__law_text:L2.Known (L2.KOf KX) mg "_law_text" (K70.top 47) ["_law_house_here"]:=by exists 1
  have T__law_is_plain:L2.Known (L2.KOf KX) mg "_law_is_plain" (K70.top 48) ["_law_thing"]:=by exists 1
  have c_MOST_FIGURES:∃ t,mg "MOST_FIGURES" = some (.int 40 t):=by
   refine' L2.cst_mk (PySem.W.mg_of KX G ?a) ?e
   (case a=>k_is)
   exact ⟨_,rfl⟩
  have f_READERS:L2.FnAt (L2.KOf KX) mg "READERS":=by
   dsimp only [L2.KOf]
   refine' L2.Lh KX G ?a
   (case a=>k_is)
  have n_abs:mg "abs" = none:=by
   refine' PySem.W.mg_none_of KX G ?z
   (case z=>k_is)
  have n_all:mg "all" = none:=by
   refine' PySem.W.mg_none_of KX G ?z
   (case z=>k_is)
  have n_bool:mg "bool" = none:=by
   refine' PySem.W.mg_none_of KX G ?z
   (case z=>k_is)
  have n_int:mg "int" = none:=by
   refine' PySem.W.mg_none_of KX G ?z
   (case z=>k_is)
  have n_isinstance:mg "isinstance" = none:=by
   refine' PySem.W.mg_none_of KX G ?z
   (case z=>k_is)
  have n_len:mg "len" = none:=by
   refine' PySem.W.mg_none_of KX G ?z
   (case z=>k_is)
  have n_list:mg "list" = none:=by
   refine' PySem.W.mg_none_of KX G ?z
   (case z=>k_is)
  have n_max:mg "max" = none:=by
   refine' PySem.W.mg_none_of KX G ?z
   (case z=>k_is)
  have n_min:mg "min" = none:=by
   refine' PySem.W.mg_none_of KX G ?z
   (case z=>k_is)
  have n_range:mg "range" = none:=by
   refine' PySem.W.mg_none_of KX G ?z
   (case z=>k_is)
  have n_set:mg "set" = none:=by
   refine' PySem.W.mg_none_of KX G ?z
   (case z=>k_is)
  have n_str:mg "str" = none:=by
   refine' PySem.W.mg_none_of KX G ?z
   (case z=>k_is)
  have n_tuple:mg "tuple" = none:=by
   refine' PySem.W.mg_none_of KX G ?z
   (case z=>k_is)
  have s_FIGURES:∃ t,mg "FIGURES" = some (.str "0123456789" t):=by
   refine' L2.str_mk (PySem.W.mg_of KX G ?a) ?e_s
   (case a=>k_is)
   exact ⟨_,rfl⟩
  have g_ORDER:L2.Ek (L2.KOf KX) mg "ORDER" ["net", "line", "work", "store", "hour"]:=by
   dsimp only [L2.KOf]
   refine' L2.Lp (a:=nat_lit 196) [("net",nat_lit 439),("line",nat_lit 440),("work",nat_lit 441),("store",nat_lit 442),("hour",nat_lit 443)] KX G ?ag ?lg (by decide)
   (case ag=>k_is);(case lg=>k_is)
  have d_READERS:∀ P,L2.Ej P w (L2.KOf KX) "READERS" [("net", "read_net"),("line", "read_line"),("work", "read_work"),("store", "read_store"),("hour", "read_hour")]:=by
   intro P
   dsimp only [L2.KOf]
   refine' L2.Lj (a:=nat_lit 197) [("net", "read_net",nat_lit 171,nat_lit 445),("line", "read_line",nat_lit 178,nat_lit 446),("work", "read_work",nat_lit 183,nat_lit 447),("store", "read_store",nat_lit 190,nat_lit 448),("hour", "read_hour",nat_lit 195,nat_lit 449)] ?a rfl ?l (by decide) ⟨?n0,?n1,?n2,?n3,?n4,trivial⟩
   (case a=>k_is);(case l=>k_is)
   (case n0=>k_is);(case n1=>k_is);(case n2=>k_is);(case n3=>k_is);(case n4=>k_is)
  have TL:∃ fd:FuncData,L2.Fun (L2.KOf KX) "law" "law" (K70.top 49) fa fd ∧ ∀ (s:Shared) (u:Value),PySem.BindsTo s fd ⟨[u],[]⟩ [("_law_script",u)]:=by
   dsimp only [L2.KOf]
   refine' K70.QW KX G hmg ?a ?l ?c ?k
   (case a=>k_is);(case l=>k_is);(case c=>k_is);(case k=>k_is)
  obtain ⟨fd,FL,bL⟩:=TL
  exact ⟨fd,bL,fun base _ _=>K70.Ks FL rfl T_is_whole_number T_is_within T_is_row T_is_line T_are_joined T_is_net T_is_piece T_are_pieces T_is_work T_is_store T_is_want T_are_wants T_is_house T_is_number T_numbers_of T_joined T_show_work T_show_house T_read_numbers T_read_net T_read_line T_read_work T_read_store T_read_hour T_read_rows T_read_house T__law_bag T__law_take T__law_net T__law_work T__law_wants T__law_store T__law_house T__law_text T__law_is_plain c_MOST_FIGURES (d_READERS _) f_READERS g_ORDER s_FIGURES n_abs n_all n_bool n_int n_isinstance n_len n_list n_max n_min n_range n_set n_str n_tuple base⟩
