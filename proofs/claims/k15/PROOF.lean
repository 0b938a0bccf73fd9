import PyProof.Rows.All
import Wide.All
import OpenK.AllK
import Wide.FinOn
import Lean
import PyProof.EqAt
import PyProof.EqKinds
import PyProof.TupleCall
import PyProof.ListRange
import PyProof.Rows.SetFrom
import PyProof.WalkInts
import PyProof.Draws
import PySem.Challenge.RW_mainskeep_k15_streams_behind_a_loss
set_option Elab.async false
set_option linter.all false
set_option maxRecDepth 100000
set_option maxHeartbeats 8000000
namespace L2
open PySem
def jD (s:Stmt):Arguments:=match s with
 | .FunctionDef _ a _ _ _ _ _ _ _ _=>a
 | _=>{ posonlyargs:=[],args:=[],vararg:=none,kwonlyargs:=[],kw_defaults:=[],kwarg:=none,defaults:=[] }
def gF (s:Stmt):List Stmt:=match s with
 | .FunctionDef _ _ b _ _ _ _ _ _ _=>b
 | _=>[]
def aL (s:Stmt):Scope:=match s with
 | .FunctionDef _ _ _ _ _ _ sc _ _ _=>sc
 | _=>{ kind:=.function,names:=[],isGenerator:=false,isCoroutine:=false }
end L2
namespace K15
open PySem L2
def top (i:Nat):Stmt:=PySem.Challenge.pw_mainskeep_k15_streams_behind_a_loss.main.body.getD i (.Pass ⟨0,0,0,0⟩)
abbrev kE (P:Params) (x:Str) (t:Nat) (v:Value):DictEntry:=⟨PyData.keyHash P x,.str x t,v⟩
abbrev kF (x:Str) (st:Stmt) (doc pm:Value) (an:Option Addr) (cd ct:Value):FuncData:=PySem.W.fnOf x x (jD st) (gF st) (aL st) .none .none doc pm an cd ct
abbrev kC (n q:String) (a b c l x y z:Nat) (r:Addr) (f:Nat) (r2:Addr) (u v w:Value) (t l2 e:Nat):Obj:=⟨.type "code",none,.fields [.str n a,.str q b,.str "/claim/cut.py" c,.int l 0,.int x 0,.int 0 0,.int 0 0,.int y 0,.ref r,.bool true,.int f 0,.ref r2,u,v,w,.ref z,.int t 0,.int l2 0,.str "/claim/cut.py" e].toArray,#[]⟩
abbrev kG (n:String) (i:Nat) (m:Value) (c:Addr):Obj:=⟨.type "function",none,.func (kF n (top i) .none m none (.ref c) .none),#[]⟩
def Um (s:Stmt):Pos:=match s with
 | .FunctionDef _ _ _ _ _ _ _ _ _ p=>p
 | _=>⟨0,0,0,0⟩
def heap:Params->PySem.W.Frag:=fun P=>
 (nat_lit 2,⟨.none,none,.dict [].toArray 0,#[]⟩) ::
 (nat_lit 3,⟨.type "dict",none,.dict [kE P "__name__" 165 (.str "law_mainskeep_k15_streams_behind_a_loss" 487),kE P "__doc__" 166 (.none),kE P "__package__" 167 (.none),kE P "__loader__" 168 (.builtin "__main__.__loader__#opaque"),kE P "__spec__" 169 (.none),kE P "__annotations__" 170 (.ref 6),kE P "__builtins__" 171 (.ref 4),kE P "__file__" 173 (.str "/claim/cut.py" 172),kE P "__cached__" 174 (.none),kE P "MainsError" 206 (.ref 24),kE P "NoFraction" 222 (.ref 37),kE P "NoPuts" 238 (.ref 49),kE P "NoBalance" 254 (.ref 61),kE P "NoLine" 270 (.ref 73),kE P "NoLoss" 286 (.ref 85),kE P "is_whole_number" 295 (.ref 94),kE P "is_within" 304 (.ref 101),kE P "is_row" 313 (.ref 108),kE P "common_divisor" 323 (.ref 115),kE P "fraction" 332 (.ref 122),kE P "plus" 340 (.ref 129),kE P "minus" 348 (.ref 136),kE P "times" 356 (.ref 143),kE P "over" 364 (.ref 150),kE P "is_fraction" 373 (.ref 157),kE P "are_joined" 381 (.ref 162),kE P "lines_but" 389 (.ref 169),kE P "can_be_lost" 397 (.ref 176),kE P "without" 405 (.ref 183),kE P "leading_row" 416 (.ref 190),kE P "made_one" 422 (.ref 195),kE P "made_nought" 428 (.ref 200),kE P "cleared" 434 (.ref 205),kE P "solved" 440 (.ref 210),kE P "check_puts" 452 (.ref 217),kE P "stiffness_table" 458 (.ref 222),kE P "heights" 464 (.ref 227),kE P "streams" 470 (.ref 232),kE P "shares" 476 (.ref 237),kE P "behind_loss" 486 (.ref 244),kE P "_law_bag" 499 (.ref 251),kE P "_law_take" 508 (.ref 258),kE P "_law_far" 518 (.ref 265),kE P "_law_common" 526 (.ref 272),kE P "_law_lowest" 535 (.ref 279),kE P "_law_plus" 543 (.ref 286),kE P "_law_times" 551 (.ref 293),kE P "_law_line" 562 (.ref 300),kE P "_law_net" 575 (.ref 307),kE P "_law_joined" 581 (.ref 312),kE P "_law_size_number" 587 (.ref 317),kE P "_law_running" 593 (.ref 322),kE P "_law_running_without" 603 (.ref 329),kE P "_law_lifted" 609 (.ref 334),kE P "_law_like" 615 (.ref 339),kE P "_law_can_go" 621 (.ref 344),kE P "_law_by_shares" 627 (.ref 349),kE P "law" 643 (.ref 356)].toArray 58,#[]⟩) ::
 (nat_lit 93,kC "is_whole_number" "is_whole_number" 289 290 291 15 1 3 92 88 181 89 .none (.ref 90) (.ref 91) 293 15 294) ::
 (nat_lit 94,kG "is_whole_number" 8 (.str "mainskeep.kinds" 287) 93) ::
 (nat_lit 100,kC "is_within" "is_within" 296 297 298 17 3 3 99 95 181 96 .none (.ref 97) (.ref 98) 302 17 303) ::
 (nat_lit 101,kG "is_within" 9 (.str "mainskeep.kinds" 287) 100) ::
 (nat_lit 107,kC "is_row" "is_row" 305 306 307 19 3 3 106 102 181 103 .none (.ref 104) (.ref 105) 311 19 312) ::
 (nat_lit 108,kG "is_row" 10 (.str "mainskeep.kinds" 287) 107) ::
 (nat_lit 114,kC "common_divisor" "common_divisor" 316 317 318 22 2 3 113 109 181 110 .none (.ref 111) (.ref 112) 321 22 322) ::
 (nat_lit 115,kG "common_divisor" 12 (.str "mainskeep.fractions" 314) 114) ::
 (nat_lit 121,kC "fraction" "fraction" 324 325 326 26 2 3 120 116 181 117 .none (.ref 118) (.ref 119) 330 26 331) ::
 (nat_lit 122,kG "fraction" 13 (.str "mainskeep.fractions" 314) 121) ::
 (nat_lit 128,kC "plus" "plus" 333 334 335 33 2 3 127 123 181 124 .none (.ref 125) (.ref 126) 338 33 339) ::
 (nat_lit 129,kG "plus" 14 (.str "mainskeep.fractions" 314) 128) ::
 (nat_lit 135,kC "minus" "minus" 341 342 343 35 2 3 134 130 181 131 .none (.ref 132) (.ref 133) 346 35 347) ::
 (nat_lit 136,kG "minus" 15 (.str "mainskeep.fractions" 314) 135) ::
 (nat_lit 142,kC "times" "times" 349 350 351 37 2 3 141 137 181 138 .none (.ref 139) (.ref 140) 354 37 355) ::
 (nat_lit 143,kG "times" 16 (.str "mainskeep.fractions" 314) 142) ::
 (nat_lit 149,kC "over" "over" 357 358 359 39 2 3 148 144 181 145 .none (.ref 146) (.ref 147) 362 39 363) ::
 (nat_lit 150,kG "over" 17 (.str "mainskeep.fractions" 314) 149) ::
 (nat_lit 156,kC "is_fraction" "is_fraction" 365 366 367 41 1 3 155 151 181 152 .none (.ref 153) (.ref 154) 371 41 372) ::
 (nat_lit 157,kG "is_fraction" 18 (.str "mainskeep.fractions" 314) 156) ::
 (nat_lit 161,kC "are_joined" "are_joined" 376 377 378 49 2 3 160 158 181 159 .none .none .none 379 49 380) ::
 (nat_lit 162,kG "are_joined" 20 (.str "mainskeep.nets" 374) 161) ::
 (nat_lit 168,kC "lines_but" "lines_but" 382 383 384 55 2 3 167 163 181 164 .none (.ref 165) (.ref 166) 387 55 388) ::
 (nat_lit 169,kG "lines_but" 21 (.str "mainskeep.nets" 374) 168) ::
 (nat_lit 175,kC "can_be_lost" "can_be_lost" 390 391 392 57 2 3 174 170 181 171 .none (.ref 172) (.ref 173) 395 57 396) ::
 (nat_lit 176,kG "can_be_lost" 22 (.str "mainskeep.nets" 374) 175) ::
 (nat_lit 182,kC "without" "without" 398 399 400 59 2 3 181 177 181 178 .none (.ref 179) (.ref 180) 403 59 404) ::
 (nat_lit 183,kG "without" 23 (.str "mainskeep.nets" 374) 182) ::
 (nat_lit 189,kC "leading_row" "leading_row" 408 409 410 66 2 3 188 184 181 185 .none (.ref 186) (.ref 187) 414 66 415) ::
 (nat_lit 190,kG "leading_row" 25 (.str "mainskeep.tables" 406) 189) ::
 (nat_lit 194,kC "made_one" "made_one" 417 418 419 71 2 3 193 191 181 192 .none .none .none 420 71 421) ::
 (nat_lit 195,kG "made_one" 26 (.str "mainskeep.tables" 406) 194) ::
 (nat_lit 199,kC "made_nought" "made_nought" 423 424 425 73 3 3 198 196 181 197 .none .none .none 426 73 427) ::
 (nat_lit 200,kG "made_nought" 27 (.str "mainskeep.tables" 406) 199) ::
 (nat_lit 204,kC "cleared" "cleared" 429 430 431 75 2 3 203 201 181 202 .none .none .none 432 75 433) ::
 (nat_lit 205,kG "cleared" 28 (.str "mainskeep.tables" 406) 204) ::
 (nat_lit 209,kC "solved" "solved" 435 436 437 78 2 3 208 206 181 207 .none .none .none 438 78 439) ::
 (nat_lit 210,kG "solved" 29 (.str "mainskeep.tables" 406) 209) ::
 (nat_lit 216,kC "check_puts" "check_puts" 443 444 445 88 2 3 215 211 181 212 .none (.ref 213) (.ref 214) 450 88 451) ::
 (nat_lit 217,kG "check_puts" 31 (.str "mainskeep.streams" 441) 216) ::
 (nat_lit 221,kC "stiffness_table" "stiffness_table" 453 454 455 98 1 3 220 218 181 219 .none .none .none 456 98 457) ::
 (nat_lit 222,kG "stiffness_table" 32 (.str "mainskeep.streams" 441) 221) ::
 (nat_lit 226,kC "heights" "heights" 459 460 461 106 2 3 225 223 181 224 .none .none .none 462 106 463) ::
 (nat_lit 227,kG "heights" 33 (.str "mainskeep.streams" 441) 226) ::
 (nat_lit 231,kC "streams" "streams" 465 466 467 110 2 3 230 228 181 229 .none .none .none 468 110 469) ::
 (nat_lit 232,kG "streams" 34 (.str "mainskeep.streams" 441) 231) ::
 (nat_lit 236,kC "shares" "shares" 471 472 473 113 3 3 235 233 181 234 .none .none .none 474 113 475) ::
 (nat_lit 237,kG "shares" 35 (.str "mainskeep.streams" 441) 236) ::
 (nat_lit 243,kC "behind_loss" "behind_loss" 477 478 479 118 3 3 242 238 181 239 .none (.ref 240) (.ref 241) 484 118 485) ::
 (nat_lit 244,kG "behind_loss" 36 (.str "mainskeep.streams" 441) 243) ::
 (nat_lit 250,kC "_law_bag" "_law_bag" 489 490 491 124 2 3 249 245 181 246 .none (.ref 247) (.ref 248) 497 124 498) ::
 (nat_lit 251,kG "_law_bag" 38 (.str "law_mainskeep_k15_streams_behind_a_loss" 487) 250) ::
 (nat_lit 257,kC "_law_take" "_law_take" 500 501 502 134 2 3 256 252 181 253 .none (.ref 254) (.ref 255) 506 134 507) ::
 (nat_lit 258,kG "_law_take" 39 (.str "law_mainskeep_k15_streams_behind_a_loss" 487) 257) ::
 (nat_lit 264,kC "_law_far" "_law_far" 509 510 511 141 2 3 263 259 181 260 .none (.ref 261) (.ref 262) 516 141 517) ::
 (nat_lit 265,kG "_law_far" 40 (.str "law_mainskeep_k15_streams_behind_a_loss" 487) 264) ::
 (nat_lit 271,kC "_law_common" "_law_common" 519 520 521 146 2 3 270 266 181 267 .none (.ref 268) (.ref 269) 524 146 525) ::
 (nat_lit 272,kG "_law_common" 41 (.str "law_mainskeep_k15_streams_behind_a_loss" 487) 271) ::
 (nat_lit 278,kC "_law_lowest" "_law_lowest" 527 528 529 150 2 3 277 273 181 274 .none (.ref 275) (.ref 276) 533 150 534) ::
 (nat_lit 279,kG "_law_lowest" 42 (.str "law_mainskeep_k15_streams_behind_a_loss" 487) 278) ::
 (nat_lit 285,kC "_law_plus" "_law_plus" 536 537 538 155 2 3 284 280 181 281 .none (.ref 282) (.ref 283) 541 155 542) ::
 (nat_lit 286,kG "_law_plus" 43 (.str "law_mainskeep_k15_streams_behind_a_loss" 487) 285) ::
 (nat_lit 292,kC "_law_times" "_law_times" 544 545 546 157 2 3 291 287 181 288 .none (.ref 289) (.ref 290) 549 157 550) ::
 (nat_lit 293,kG "_law_times" 44 (.str "law_mainskeep_k15_streams_behind_a_loss" 487) 292) ::
 (nat_lit 299,kC "_law_line" "_law_line" 552 553 554 159 3 3 298 294 181 295 .none (.ref 296) (.ref 297) 560 159 561) ::
 (nat_lit 300,kG "_law_line" 45 (.str "law_mainskeep_k15_streams_behind_a_loss" 487) 299) ::
 (nat_lit 306,kC "_law_net" "_law_net" 563 564 565 165 1 3 305 301 181 302 .none (.ref 303) (.ref 304) 573 165 574) ::
 (nat_lit 307,kG "_law_net" 46 (.str "law_mainskeep_k15_streams_behind_a_loss" 487) 306) ::
 (nat_lit 311,kC "_law_joined" "_law_joined" 576 577 578 175 2 3 310 308 181 309 .none .none .none 579 175 580) ::
 (nat_lit 312,kG "_law_joined" 47 (.str "law_mainskeep_k15_streams_behind_a_loss" 487) 311) ::
 (nat_lit 316,kC "_law_size_number" "_law_size_number" 582 583 584 182 1 3 315 313 181 314 .none .none .none 585 182 586) ::
 (nat_lit 317,kG "_law_size_number" 48 (.str "law_mainskeep_k15_streams_behind_a_loss" 487) 316) ::
 (nat_lit 321,kC "_law_running" "_law_running" 588 589 590 190 2 3 320 318 181 319 .none .none .none 591 190 592) ::
 (nat_lit 322,kG "_law_running" 49 (.str "law_mainskeep_k15_streams_behind_a_loss" 487) 321) ::
 (nat_lit 328,kC "_law_running_without" "_law_running_without" 594 595 596 208 3 3 327 323 181 324 .none (.ref 325) (.ref 326) 601 208 602) ::
 (nat_lit 329,kG "_law_running_without" 50 (.str "law_mainskeep_k15_streams_behind_a_loss" 487) 328) ::
 (nat_lit 333,kC "_law_lifted" "_law_lifted" 604 605 606 211 2 3 332 330 181 331 .none .none .none 607 211 608) ::
 (nat_lit 334,kG "_law_lifted" 51 (.str "law_mainskeep_k15_streams_behind_a_loss" 487) 333) ::
 (nat_lit 338,kC "_law_like" "_law_like" 610 611 612 225 2 3 337 335 181 336 .none .none .none 613 225 614) ::
 (nat_lit 339,kG "_law_like" 52 (.str "law_mainskeep_k15_streams_behind_a_loss" 487) 338) ::
 (nat_lit 343,kC "_law_can_go" "_law_can_go" 616 617 618 229 1 3 342 340 181 341 .none .none .none 619 229 620) ::
 (nat_lit 344,kG "_law_can_go" 53 (.str "law_mainskeep_k15_streams_behind_a_loss" 487) 343) ::
 (nat_lit 348,kC "_law_by_shares" "_law_by_shares" 622 623 624 231 3 3 347 345 181 346 .none .none .none 625 231 626) ::
 (nat_lit 349,kG "_law_by_shares" 54 (.str "law_mainskeep_k15_streams_behind_a_loss" 487) 348) ::
 (nat_lit 355,kC "law" "law" 628 629 630 238 1 3 354 350 181 351 .none (.ref 352) (.ref 353) 641 238 642) ::
 (nat_lit 356,kG "law" 55 (.str "law_mainskeep_k15_streams_behind_a_loss" 487) 355) ::
 []
def addrs:List Addr:=[2,3,93,94,100,101,107,108,114,115,121,122,128,129,135,136,142,143,149,150,156,157,161,162,168,169,175,176,182,183,189,190,194,195,199,200,204,205,209,210,216,217,221,222,226,227,231,232,236,237,243,244,250,251,257,258,264,265,271,272,278,279,285,286,292,293,299,300,306,307,311,312,316,317,321,322,328,329,333,334,338,339,343,344,348,349,355,356]
theorem said:PySem.Challenge.rw_mainskeep_k15_streams_behind_a_loss.wellSaid=true:=by kernel_rfl
theorem nW:∀ P,addrs=(heap P).map (·.1):=fun _=>by kernel_rfl
def q:Program:={ PySem.Challenge.pw_mainskeep_k15_streams_behind_a_loss with main:={ PySem.Challenge.pw_mainskeep_k15_streams_behind_a_loss.main with body:=[1,2,3,4,5,6,8,9,10,12,13,14,15,16,17,18,20,21,22,23,25,26,27,28,29,31,32,33,34,35,36,38,39,40,41,42,43,44,45,46,47,48,49,50,51,52,53,54,55].filterMap fun i=>PySem.Challenge.pw_mainskeep_k15_streams_behind_a_loss.main.body[i]? } }
set_option maxHeartbeats 0 in
theorem left:PySem.W.LeftO PySem.Challenge.pw_mainskeep_k15_streams_behind_a_loss q [] (fun s=>PySem.W.xlAt q [] s&&PySem.W.recOk (PySem.Challenge.rw_mainskeep_k15_streams_behind_a_loss.row.toRowW.records) s) (PySem.W.Hook.obs (PySem.W.kHook heap addrs nW)) (PySem.W.Hook.val (PySem.W.kHook heap addrs nW)) 5272:=fun w=>by kernel_rfl
def vQ:DefRec:=⟨"law",jD (top 55),gF (top 55),aL (top 55),Um (top 55)⟩
theorem QK:PySem.W.defOf q PySem.Challenge.rw_mainskeep_k15_streams_behind_a_loss.row.toRowW.name=some (vQ,[]):=by kernel_rfl
theorem QL:PySem.Challenge.rw_mainskeep_k15_streams_behind_a_loss.row.prog.theDef PySem.Challenge.rw_mainskeep_k15_streams_behind_a_loss.row.name=some (vQ.params,vQ.body,vQ.scope):=by kernel_rfl
end K15
namespace L2
open PySem PySem.Spec PyProof.Rows
abbrev Key:=Sum Int Str
def Tq:Key->Value->Bool
 | .inl k,v=>Value.isInt k v
 | .inr x,v=>Value.isStrOf x v
def Ze (w:World):Key->Int
 | .inl k=>hashInt k
 | .inr x=>hashStr w x
theorem eN:∀ {k:Key} {v:Value},Tq k v=true->(∃ i t,k=Sum.inl i∧v=Value.int i t)∨(∃ x t,k=Sum.inr x∧v=Value.str x t)
 | .inl i,v,h=>by
  obtain ⟨t,e⟩:=Value.isInt_shape (k:=i) (v:=v) h
  exact .inl ⟨i,t,rfl,e⟩
 | .inr x,v,h=>by
  obtain ⟨t,e⟩:=Value.isStrOf_shape (x:=x) (v:=v) h
  exact .inr ⟨x,t,rfl,e⟩
theorem Vc (a b:Int):decide ((Sum.inl a:Key)=Sum.inl b)=(a==b):=by
 by_cases e:a=b
 ·subst e;simp
 ·have h:¬ (Sum.inl a:Key)=Sum.inl b:=fun q=>e (Sum.inl.inj q)
  rw [decide_eq_false h]
  exact (beq_eq_false_iff_ne.mpr e).symm
theorem Vf (a b:Str):decide ((Sum.inr a:Key)=Sum.inr b)=decide (a=b):=by
 by_cases e:a=b
 ·subst e;simp
 ·have h:¬ (Sum.inr a:Key)=Sum.inr b:=fun q=>e (Sum.inr.inj q)
  rw [decide_eq_false h,decide_eq_false e]
theorem Vd (a:Int) (b:Str):decide ((Sum.inl a:Key)=Sum.inr b)=false:=decide_eq_false (fun q=>nomatch q)
theorem Ve (a:Str) (b:Int):decide ((Sum.inr a:Key)=Sum.inl b)=false:=decide_eq_false (fun q=>nomatch q)
def zG (prog:Program) (w:World):PySem.KeyKind prog w Key where
 is:=Tq
 hash:=Ze w
 inj:=fun v a b ha hb=>by
  rcases eN ha with ⟨i,t,rfl,rfl⟩ | ⟨x,t,rfl,rfl⟩
  ·rcases eN hb with ⟨j,u,rfl,e⟩ | ⟨y,u,rfl,e⟩
   ·injection e with e1 _;rw [e1]
   ·exact nomatch e
  ·rcases eN hb with ⟨j,u,rfl,e⟩ | ⟨y,u,rfl,e⟩
   ·exact nomatch e
   ·injection e with e1 _;rw [e1]
 byValue:=fun k v h=>by
  rcases eN h with ⟨i,t,rfl,rfl⟩ | ⟨x,t,rfl,rfl⟩ <;> rfl
 pyHash:=fun hv h=>by
  rcases eN hv with ⟨i,t,rfl,rfl⟩ | ⟨x,t,rfl,rfl⟩
  ·exact wpAny_pyHash_int h
  ·exact wpAny_pyHash_str h
 eqBool:=fun hu hv h=>by
  rcases eN hu with ⟨i,t,rfl,rfl⟩ | ⟨x,t,rfl,rfl⟩
  ·rcases eN hv with ⟨j,u,rfl,rfl⟩ | ⟨y,u,rfl,rfl⟩
   ·rw [Vc] at h;exact wpAny_eqBool_int h
   ·rw [Vd] at h;exact SeqAt.EqAt.int_str i t y u _ _ _ _ h
  ·rcases eN hv with ⟨j,u,rfl,rfl⟩ | ⟨y,u,rfl,rfl⟩
   ·rw [Ve] at h;exact SeqAt.EqAt.str_int x t j u _ _ _ _ h
   ·rw [Vf] at h;exact wpAny_eqBool_str h
 «strs»:=fun k x t v h=>by
  rcases eN h with ⟨i,u,rfl,e⟩ | ⟨y,u,rfl,e⟩
  ·exact nomatch e
  ·injection e with e1 _
   subst e1
   cases v <;> rfl
end L2
namespace L2
open PySem PySem.Spec PyProof.Rows
inductive V where
 | non | bl (b:Bool) | int (i:Int) | str (x:Str) | byt (b:Array UInt8) | flt (b:UInt64) | ref (a:Addr) | ty (n:String)
 deriving DecidableEq
def RelV:V->Value->Prop
 | .non,u=>u=Value.none
 | .bl b,u=>u=Value.bool b
 | .int i,u=>∃ t,u=Value.int i t
 | .str x,u=>∃ t,u=Value.str x t
 | .byt b,u=>∃ t,u=Value.bytes b t
 | .flt b,u=>∃ t,u=Value.float b t
 | .ref a,u=>u=Value.ref a
 | .ty n,u=>u=Value.type n
abbrev Vals:List V->List Value->Prop:=Paired RelV
theorem Vals.length {xs:List V} {us:List Value} (r:Vals xs us):xs.length=us.length:=Paired.length r
theorem Vals.get:∀ {xs:List V} {us:List Value} {i:Nat} {x:V},Vals xs us->xs[i]? = some x -> ∃ u,us[i]? = some u∧RelV x u
 | _,_,_,_,.nil,e=>by simp at e
 | _,_,0,_,.cons r _,e=>by simp at e;subst e;exact ⟨_,rfl,r⟩
 | _,_,i+1,x,.cons _ t,e=>by
  obtain ⟨u,h1,h2⟩:=Vals.get (i:=i) (x:=x) t (by simpa using e)
  exact ⟨u,by simpa using h1,h2⟩
theorem Vals.set {x:V} {u:Value} (r:RelV x u):∀ {xs:List V} {us:List Value} (i:Nat),Vals xs us->Vals (xs.set i x) (us.set i u)
 | _,_,_,.nil=>.nil
 | _,_,0,.cons _ t=>.cons r t
 | _,_,i+1,.cons q t=>.cons q (Vals.set r i t)
theorem Vals.append:∀ {xs ys:List V} {us ws:List Value},Vals xs us->Vals ys ws->Vals (xs++ys) (us++ws)
 | _,_,_,_,.nil,s=>s
 | _,_,_,_,.cons r t,s=>.cons r (Vals.append t s)
theorem Vals.take:∀ {xs:List V} {us:List Value} (n:Nat),Vals xs us->Vals (xs.take n) (us.take n)
 | _,_,0,_=>.nil
 | _,_,_+1,.nil=>.nil
 | _,_,n+1,.cons r t=>.cons r (Vals.take n t)
theorem Vals.drop:∀ {xs:List V} {us:List Value} (n:Nat),Vals xs us->Vals (xs.drop n) (us.drop n)
 | _,_,0,r=>r
 | _,_,_+1,.nil=>.nil
 | _,_,n+1,.cons _ t=>Vals.drop n t
def JM:Option V->Option Value->Prop
 | some v,some u=>RelV v u
 | none,none=>True
 | _,_=>False
def KV {κ : Type}:List (κ × V)->List (κ × Value)->Prop:=Paired fun (p : κ × V) (q : κ × Value)=>p.1=q.1∧RelV p.2 q.2
def kV:Key->V
 | .inl i=>.int i
 | .inr x=>.str x
inductive HO where
 | lst (xs:List V)
 | tup (xs:List V)
 | dK (kvs:List (Key×V)) | dT (kvs:List (List Key×V))
 | set (S:Int->Bool) (n:Nat)
 | ins (C dx:Addr) (fs:List (Str×V))
 | own (x:Addr)
 | xd (fs:List (Str×V))
 | met (f x:Addr)
 | rng (lo hi:Int)
 | frz (o:Obj) (u:HO)
 | tbl (ps:Array Value)
 | ext (φ : Heap->Prop)
abbrev Hp:=Addr->Option HO
def upd (H:Hp) (a:Addr) (o:HO):Hp:=fun b=>if b=a then some o else H b
theorem cW {H:Hp} {a:Addr} {o:HO}:upd H a o a=some o:=by unfold upd;rw [if_pos rfl]
theorem bJ {H:Hp} {a b:Addr} {o:HO} (h:b≠a):upd H a o b=H b:=by unfold upd;rw [if_neg h]
theorem bW {H:Hp} {a b:Addr} {o:HO} (h:H a=some o) (h':H b=none):a≠b:=by
 intro e;subst e;rw [h] at h';cases h'
section
variable (P:Program) (w:World)
def fK (H:Hp) (h:Heap) (a:Addr):HO->Prop
 | .lst xs=>xs.length<=sizeLine ∧ ∃ (its:List Value) (n:Nat),Vals xs its∧h.get? a=some { cls:=.type "list",data:=.seq its.toArray n }
 | .tup xs=>xs.length<=sizeLine ∧ ∃ its:List Value,Vals xs its∧IsTup h a its.toArray
 | .dK kvs=>kvs.length<=sizeLine∧(a==sysModules)=false ∧ ∃ vs,KV kvs vs∧h.DictOf (zG P w) a vs
 | .dT kvs=>kvs.length<=sizeLine∧(a==sysModules)=false ∧ ∃ xs:List (List Key×Addr×Value),
   Paired (fun (p:List Key×V) (q:List Key×Addr×Value)=>p.1=q.1∧H q.2.1=some (.tup (p.1.map kV))∧RelV p.2 q.2.2) kvs xs ∧
   ∃ o es ep,h.get? a=some o∧o.ExactDict∧o.data = .dict es ep∧es.toList=xs.map (entryOfKey (tupleKind (zG P w)))∧(xs.map (·.1)).Nodup
 | .set S n=>h.SetOf (intKind P w) a S n
 | .ins C dx fs=>H dx=some (.own a)∧fs.length<=1000∧dx≠a∧h.get? a=some (PySem.W.instObj C dx) ∧
   ∃ mA,h.Ns1 dx mA∧(∀ f,JM (fs.lookup f) (mA f))∧PySem.Within mA (fs.map (·.1))
 | .own _=>∃ o,h.get? a=some o
 | .xd fs=>∃ mA,h.Ns1 a mA ∧ ∀ f,JM (fs.lookup f) (mA f)
 | .rng lo hi=>∃ t u v,h.get? a=some { cls:=.type "range",data:=.fields #[.int lo t,.int hi u,.int 1 v] }
 | .frz o u=>h.get? a=some o∧fK H h a u
 | .tbl ps=>h.get? a=some { cls:=.none,data:=.fields ps }
 | .met f x=>h.get? a=some (PySem.W.methodObj (.ref f) (.ref x))
 | .ext φ => φ h∧(∃ o,h.get? a=some o) ∧ ∀ h1 h2:Heap,φ h1->(∀ o,h1.get? a=some o->h2.get? a=some o) -> φ h2
def HOk (H:Hp) (h:Heap):Prop:=∀ a o,H a=some o->fK P w H h a o
end
section
variable {P:Program} {w:World} {H H':Hp} {h h':Heap} {a:Addr} {o:HO}
theorem fK.lt (x:fK P w H h a o):a<h.objs.size:=by
 cases o with
 | lst xs=>obtain ⟨_,_,_,_,e⟩:=x;exact Heap.lt_size e
 | tup xs=>obtain ⟨_,_,_,p⟩:=x;exact p.lt
 | dK kvs=>obtain ⟨_,_,_,_,o,_,_,e,_⟩:=x;exact Heap.lt_size e
 | dT kvs=>obtain ⟨_,_,_,_,o,_,_,e,_⟩:=x;exact Heap.lt_size e
 | set S n=>obtain ⟨o,_,_,_,e,_⟩:=x;exact Heap.lt_size e
 | ins C dx fs=>obtain ⟨_,_,_,e,_⟩:=x;exact Heap.lt_size e
 | own y=>obtain ⟨_,e⟩:=x;exact Heap.lt_size e
 | xd fs=>obtain ⟨_,⟨_,_,_,e,_⟩,_⟩:=x;exact Heap.lt_size e
 | rng lo hi=>obtain ⟨_,_,_,e⟩:=x;exact Heap.lt_size e
 | frz ob u=>obtain ⟨e,_⟩:=x;exact Heap.lt_size e
 | tbl ps=>exact Heap.lt_size (show h.get? a=some _ from x)
 | met f y=>exact Heap.lt_size (show h.get? a=some _ from x)
 | ext φ => obtain ⟨_,⟨_,e⟩,_⟩:=x;exact Heap.lt_size e
theorem Paired.mapP {α β : Type} {F G : α -> β -> Prop}:∀ {l₁ : List α} {l₂ : List β},Paired F l₁ l₂ -> (∀ a b,F a b->G a b)->Paired G l₁ l₂
 | _,_,.nil,_=>.nil
 | _,_,.cons r t,f=>.cons (f _ _ r) (Paired.mapP t f)
theorem fK.stay (x:fK P w H h a o) (k:∀ b u,(b=a∨H b=some (.own a))->h.get? b=some u->h'.get? b=some u)
  (ho:∀ b,H b=some (.own a)->H' b=some (.own a)) (ht:∀ b xs,H b=some (.tup xs)->H' b=some (.tup xs)):fK P w H' h' a o:=by
 induction o with
 | lst xs=>obtain ⟨z,its,n,r,e⟩:=x;exact ⟨z,its,n,r,k _ _ (.inl rfl) e⟩
 | tup xs=>obtain ⟨z,its,r,ob,e,c⟩:=x;exact ⟨z,its,r,ob,k _ _ (.inl rfl) e,c⟩
 | dK kvs=>obtain ⟨z,y,vs,r,ob,es,ep,e,c⟩:=x;exact ⟨z,y,vs,r,ob,es,ep,k _ _ (.inl rfl) e,c⟩
 | dT kvs=>
  obtain ⟨z,y,xs,r,ob,es,ep,e,c⟩:=x
  exact ⟨z,y,xs,Paired.mapP r fun p q z=>⟨z.1,ht _ _ z.2.1,z.2.2⟩,ob,es,ep,k _ _ (.inl rfl) e,c⟩
 | set S n=>obtain ⟨ob,es,ep,t,e,c⟩:=x;exact ⟨ob,es,ep,t,k _ _ (.inl rfl) e,c⟩
 | ins C dx fs=>
  obtain ⟨d,z,ne,e,mA,⟨od,es,ep,e2,c⟩,r⟩:=x
  exact ⟨ho _ d,z,ne,k _ _ (.inl rfl) e,mA,⟨od,es,ep,k _ _ (.inr d) e2,c⟩,r⟩
 | own y=>obtain ⟨ob,e⟩:=x;exact ⟨ob,k _ _ (.inl rfl) e⟩
 | xd fs=>obtain ⟨mA,⟨od,es,ep,e,c⟩,r⟩:=x;exact ⟨mA,⟨od,es,ep,k _ _ (.inl rfl) e,c⟩,r⟩
 | rng lo hi=>obtain ⟨t,u,v,e⟩:=x;exact ⟨t,u,v,k _ _ (.inl rfl) e⟩
 | frz ob u ih=>obtain ⟨e,q⟩:=x;exact ⟨k _ _ (.inl rfl) e,ih q⟩
 | tbl ps=>
  have e:h.get? a=some { cls:=.none,data:=.fields ps }:=x
  show h'.get? a=some { cls:=.none,data:=.fields ps }
  exact k a _ (.inl rfl) e
 | met f y=>
  have e:h.get? a=some (PySem.W.methodObj (.ref f) (.ref y)):=x
  show h'.get? a=some (PySem.W.methodObj (.ref f) (.ref y))
  exact k a _ (.inl rfl) e
 | ext φ => obtain ⟨p,⟨o,e⟩,st⟩:=x;exact ⟨st _ _ p fun o q=>k _ _ (.inl rfl) q,⟨o,k _ _ (.inl rfl) e⟩,st⟩
theorem HOk.lt (x:HOk P w H h) (e:H a=some o):a<h.objs.size:=(x a o e).lt
theorem HOk.fresh (x:HOk P w H h) (e:h.objs.size<=a):H a=none:=by
 cases q:H a with
 | none=>rfl
 | some u=>exact absurd (Nat.lt_of_lt_of_le (x.lt q) e) (Nat.lt_irrefl _)
theorem HOk.kept (x:HOk P w H h) (k:∀ b u,h.get? b=some u->h'.get? b=some u):HOk P w H h':=fun a o e=>
 (x a o e).stay (fun b u _ q=>k b u q) (fun _ q=>q) fun _ _ q=>q
theorem HOk.laid (x:HOk P w H h) (k:∀ b u,h.get? b=some u->h'.get? b=some u) (hp:h.objs.size<=a) (new:fK P w (upd H a o) h' a o):HOk P w (upd H a o) h':=fun b u e=>by
 have hn:=x.fresh hp
 by_cases hb:b=a
 ·subst hb;rw [cW] at e;cases e;exact new
 ·rw [bJ hb] at e
  exact (x b u e).stay (fun c v _ q=>k c v q) (fun c q=>by rw [bJ (bW q hn)];exact q) fun c xs q=>by rw [bJ (bW q hn)];exact q
end
def Rd (H:Hp) (a:Addr) (u:HO):Prop:=H a=some u ∨ ∃ o,H a=some (.frz o u)
theorem Rd.of {H:Hp} {a:Addr} {u:HO} (h:H a=some u):Rd H a u:=.inl h
theorem Rd.ok {P:Program} {w:World} {H:Hp} {h:Heap} {a:Addr} {u:HO} (r:Rd H a u) (x:HOk P w H h):fK P w H h a u:=by
 rcases r with r | ⟨o,r⟩
 ·exact x a u r
 ·obtain ⟨_,q⟩:=x a _ r
  exact q
def Mut:Option HO->Prop
 | some (.lst _)=>True
 | some (.dK _)=>True
 | some (.dT _)=>True
 | some (.set _ _)=>True
 | some (.ins _ _ _)=>True
 | some (.ext _)=>True
 | _=>False
section
variable {P:Program} {w:World} {H:Hp} {h h':Heap} {x e:Addr} {o':HO}
theorem HOk.write (ok:HOk P w H h) (mu:Mut (H x)) (he:e=x∨H e=some (.own x)) (k:∀ b u,b≠e->h.get? b=some u->h'.get? b=some u) (heo:∃ u,h'.get? e=some u)
  (new:fK P w (upd H x o') h' x o'):HOk P w (upd H x o') h':=fun b u q=>by
 have nown:∀ c y,H c=some (.own y)->c≠x:=fun c y r z=>by subst z;rw [r] at mu;exact mu
 have ntup:∀ c xs,H c=some (.tup xs)->c≠x:=fun c xs r z=>by subst z;rw [r] at mu;exact mu
 by_cases hb:b=x
 ·subst hb;rw [cW] at q;cases q;exact new
 ·rw [bJ hb] at q
  by_cases hbe:b=e
  ·have q':H b=some (.own x):=by
    rcases he with z | z
    ·exact absurd (hbe.trans z) hb
    ·rw [hbe];exact z
   rw [q] at q';cases q'
   obtain ⟨v,hv⟩:=heo
   exact ⟨v,by rw [hbe];exact hv⟩
  ·refine (ok b u q).stay (fun c v hc r=>k c v ?_ r) (fun c r=>by rw [bJ (nown c b r)];exact r) fun c xs r=>by rw [bJ (ntup c xs r)];exact r
   rcases hc with rfl | hc
   ·exact hbe
   ·rintro rfl
    rcases he with z | z
    ·exact nown c b hc z
    ·rw [hc] at z;cases z;exact hb rfl
end
structure Un (fs ex:List Addr) (H H':Hp) (h h':Heap):Prop where
 keep:∀ b o,h.get? b=some o->H b=none->b ∉ fs->b ∉ ex->h'.get? b=some o
 slot:∀ b o,h.get? b=some o->H b=none->b∈fs->b ∉ ex -> ∃ sl,h'.get? b=some { o with slots:=sl }
 free:∀ b o,h.get? b=some o->H b=none->b ∉ ex->H' b=none
 there:∀ b o,h.get? b=some o->b ∉ ex -> ∃ o',h'.get? b=some o'
 tups:∀ b xs,H b=some (.tup xs)->H' b=some (.tup xs)
 frzs:∀ b o u,H b=some (.frz o u)->H' b=some (.frz o u)
 tbls:∀ b ps,H b=some (.tbl ps) -> ∃ more,H' b=some (.tbl (ps++more))
section
variable {fs fs' ex ex':List Addr} {H H1 H2:Hp} {h h1 h2 h':Heap} {a x e:Addr} {o:HO}
theorem Un.any (u:Un fs ex H H1 h h1) {b:Addr} {ob:Obj} (q:h.get? b=some ob) (n:H b=none) (hx:b ∉ ex):∃ sl,h1.get? b=some { ob with slots:=sl }:=by
 by_cases hb:b∈fs
 ·exact u.slot b ob q n hb hx
 ·exact ⟨ob.slots,u.keep b ob q n hb hx⟩
theorem Un.trans (a:Un fs ex H H1 h h1) (b:Un fs ex H1 H2 h1 h2):Un fs ex H H2 h h2 where
 keep:=fun c ob q n hc hx=>b.keep c ob (a.keep c ob q n hc hx) (a.free c ob q n hx) hc hx
 slot:=fun c ob q n hc hx=>by
  obtain ⟨sl,e1⟩:=a.slot c ob q n hc hx
  obtain ⟨sl',e2⟩:=b.slot c _ e1 (a.free c ob q n hx) hc hx
  exact ⟨sl',e2⟩
 free:=fun c ob q n hx=>by
  obtain ⟨o',e1⟩:=a.there c ob q hx
  exact b.free c o' e1 (a.free c ob q n hx) hx
 there:=fun c ob q hx=>by
  obtain ⟨o',e1⟩:=a.there c ob q hx
  exact b.there c o' e1 hx
 tups:=fun c xs q=>b.tups c xs (a.tups c xs q)
 frzs:=fun c ob xs q=>b.frzs c ob xs (a.frzs c ob xs q)
 tbls:=fun c ps q=>by
  obtain ⟨m1,e1⟩:=a.tbls c ps q
  obtain ⟨m2,e2⟩:=b.tbls c _ e1
  exact ⟨m1++m2,by rw [e2,Array.append_assoc]⟩
theorem Un.kept (k:∀ b u,h.get? b=some u->h'.get? b=some u):Un fs ex H H h h':=
 ⟨fun b ob q _ _ _=>k b ob q,fun b ob q _ _ _=>⟨ob.slots,k b ob q⟩,fun _ _ _ n _=>n,fun b ob q _=>⟨ob,k b ob q⟩,fun _ _ q=>q,fun _ _ _ q=>q,fun _ ps q=>⟨#[],by rw [q];simp⟩⟩
theorem Un.refl:Un fs ex H H h h:=Un.kept fun _ _ q=>q
theorem Un.laid (k:∀ b u,h.get? b=some u->h'.get? b=some u) (hp:h.objs.size<=a) (hn:H a=none):Un fs ex H (upd H a o) h h' where
 keep:=fun b u q _ _ _=>k b u q
 slot:=fun b u q _ _ _=>⟨u.slots,k b u q⟩
 free:=fun b u q n _=>by rw [bJ (Nat.ne_of_lt (Nat.lt_of_lt_of_le (Heap.lt_size q) hp))];exact n
 there:=fun b u q _=>⟨u,k b u q⟩
 tups:=fun b xs q=>by rw [bJ (bW q hn)];exact q
 frzs:=fun b u xs q=>by rw [bJ (bW q hn)];exact q
 tbls:=fun b ps q=>⟨#[],by rw [bJ (bW q hn),q];simp⟩
theorem Un.write (mu:Mut (H x)) (he:e=x∨H e=some (.own x)) (k:∀ b u,b≠e->h.get? b=some u->h'.get? b=some u) (heo:∃ u,h'.get? e=some u):Un fs ex H (upd H x o) h h':=by
 have hx:∀ b,H b=none->b≠x:=fun b n z=>by subst z;rw [n] at mu;exact mu
 have hb:∀ b,H b=none->b≠e:=fun b n z=>by
  subst z
  rcases he with r | r
  ·exact hx b n r
  ·rw [n] at r;cases r
 have hm:∀ b u,H b=some u -> ¬ Mut (some u)->b≠x:=fun b u q nm z=>by subst z;rw [q] at mu;exact nm mu
 refine ⟨fun b u q n _ _=>k b u (hb b n) q,fun b u q n _ _=>⟨u.slots,k b u (hb b n) q⟩,fun b u q n _=>by rw [bJ (hx b n)];exact n,fun b u q _=>?_,
  fun b xs q=>by rw [bJ (hm b _ q fun z=>z)];exact q,fun b u xs q=>by rw [bJ (hm b _ q fun z=>z)];exact q,fun b ps q=>⟨#[],by rw [bJ (hm b _ q fun z=>z),q];simp⟩⟩
 by_cases hbe:b=e
 ·subst hbe;exact heo
 ·exact ⟨u,k b u hbe q⟩
theorem Un.mono (u:Un fs ex H H1 h h1) (hs:∀ b∈fs,b∈fs') (hx:∀ b∈ex,b∈ex'):Un fs' ex' H H1 h h1:=
 ⟨fun b ob q n hb he=>u.keep b ob q n (fun z=>hb (hs b z)) fun z=>he (hx b z),fun _ _ q n _ he=>u.any q n fun z=>he (hx _ z),fun b ob q n he=>u.free b ob q n fun z=>he (hx b z),fun b ob q he=>u.there b ob q fun z=>he (hx b z),u.tups,u.frzs,u.tbls⟩
end
def trk (h:Heap) (H:Hp):List Addr:=(List.range h.objs.size).filter fun a=>(H a).isSome
def zq (h:Heap) (H:Hp):Heap:=PySem.W.hideAll h (trk h H)
theorem IW (h:Heap) (H:Hp):(zq h H).objs.size=h.objs.size:=PySem.W.hideAll_size _ _
theorem LR {h:Heap} {H:Hp} {b:Addr} {o:Obj} (e:h.get? b=some o) (n:H b=none):(zq h H).get? b=some o:=
 PySem.W.hideAll_get _ e fun hm=>by
  have q:(H b).isSome=true:=(List.mem_filter.mp hm).2
  rw [n] at q;simp at q
theorem QZ {h:Heap} {H:Hp} {b:Addr} {o:Obj} (e:(zq h H).get? b=some o):h.get? b=some o∧H b=none:=by
 have e':h.get? b=some o:=PySem.W.of_hideAll (trk h H) e
 refine ⟨e',?_⟩
 cases q:H b with
 | none=>rfl
 | some x=>
  have hm:b∈trk h H:=List.mem_filter.mpr ⟨List.mem_range.mpr (Heap.lt_size e'),by simp [q]⟩
  have z:(zq h H).get? b=none:=PySem.W.hideAll_none (trk h H) hm
  rw [z] at e;cases e
def PJ (g h:Heap) (L:Addr):List (Addr×Obj):=(List.range h.objs.size).filterMap fun a=>if a=L∨(g.get? a).isSome=true then none else (h.get? a).map fun o=>(a,o)
def rest (g h:Heap) (L d:Addr):List (Addr×Obj):=(PJ g h L).filter fun p=>decide (p.1≠d)
theorem zU {g h:Heap} {L d:Addr}:∀ p∈rest g h L d,p.1≠d:=fun p hp=>of_decide_eq_true (List.mem_filter.mp hp).2
end L2
namespace L2
open PySem PySem.Spec PyProof.Rows
structure Mod (K:PySem.W.Frag) (mg:Str->Option Value) (base:Heap):Prop where
 kin:K.In base
 glob:base.Ns mainGlobals mg
 blt:∃ mb,base.Ns builtinsNs mb ∧ ∀ x:Str,x ≠ "__name__" -> mb x=bootBuiltins x
 nolimit:base.NoLimit
 seer:base.NoSeer
structure Cx where
 prog:Program
 w:World
 K:PySem.W.Frag
 mg:Str->Option Value
 base:Heap
 A:Around
 N:List Str
 s₀ : Shared
 H₀ : Hp
 env:Env
 outer:List Env
 stack:List Env
 ex:List Addr
 fn:Str->Bool
 calm:Bool
 pn:List (Addr×Obj)
 xe:Value->Shared->Prop
def frs (l:List Env):List Addr:=l.filterMap (·.frame)
abbrev Cx.fs (X:Cx):List Addr:=frs X.outer
def Vis (sc:Scope) (x:Str):Prop:=sc.names.lookup x=some .local∨sc.names.lookup x=some .cell∨sc.names.lookup x=some .free
def Loc (sc:Scope) (x:Str):Prop:=sc.names.lookup x=some .local∨sc.names.lookup x=some .cell
def Look (env:Env) (h:Heap) (m:Str->Option Value) (x:Str) (u:Value):Prop:=
 (env.kindOf x=some .local∧m x=some u)∨((env.kindOf x=some .cell∨env.kindOf x=some .free) ∧ ∃ c,env.cells.lookup x=some c∧h.IsCell c (some u))
structure Cx.Ok (X:Cx):Prop where
 mod:Mod X.K X.mg X.base
 kind:X.env.scope.kind = .function
 glob:X.env.globals=mainGlobals
 blt:X.env.builtins=builtinsNs
 above:X.s₀.heap.objs.size<=X.env.locals
 inj:∀ x y c,X.env.cells.lookup x=some c->X.env.cells.lookup y=some c->x=y
 has:∀ x,(X.env.kindOf x=some .cell∨X.env.kindOf x=some .free) -> ∃ c,X.env.cells.lookup x=some c
 cab:∀ x c,X.fn x=true->X.env.cells.lookup x=some c->X.s₀.heap.objs.size<=c
 hd:X.calm=true->X.A.handled=none
 frames:X.A.frames=some X.stack
 stk:X.stack=X.outer∨(X.stack=X.env :: X.outer∧X.env.frame=some X.env.locals)
 exf:∀ b∈X.ex,b≠X.env.locals ∧ ∀ x c,X.env.cells.lookup x=some c->c≠b
 bs:∀ b o,X.base.get? b=some o->X.s₀.heap.get? b=some o∧X.H₀ b=none
 bsz:X.base.objs.size<=X.s₀.heap.objs.size
 noex:∀ b o,X.base.get? b=some o->b ∉ X.ex
 exfs:∀ b∈X.ex,b ∉ X.fs
 funs:X.s₀.heap.FunFrames X.base X.outer
 frf:∀ b∈X.fs,X.H₀ b=none
structure Inv (X:Cx) (pins:List (Addr×Obj)) (σ : List (Option V)) (H:Hp) (s:Shared):Prop where
 ok:X.Ok
 os:s.os=X.s₀.os
 bare:AllBare s.gens
 base:Un X.fs X.ex X.H₀ H X.s₀.heap s.heap
 loc:∃ m,s.heap.Ns X.env.locals m ∧ ∀ (i:Nat) (x:Str) (v:V),X.N[i]? = some x -> σ[i]? = some (some v)->Vis X.env.scope x -> ∃ u,RelV v u∧Look X.env s.heap m x u
 cell:∀ x c,X.env.cells.lookup x=some c -> ∃ v,s.heap.IsCell c v
 free:H X.env.locals=none
 freeC:∀ x c,X.env.cells.lookup x=some c->H c=none
 pin:∀ p∈X.pn++pins,s.heap.get? p.1=some p.2∧H p.1=none∧p.1≠X.env.locals∧p.1 ∉ X.fs ∧ ∀ v,p.2.data ≠ .cell v
 hok:HOk X.prog X.w H s.heap
 len : σ.length=X.N.length
section
variable {X:Cx} {pins:List (Addr×Obj)} {σ : List (Option V)} {H H':Hp} {s:Shared} {h':Heap}
theorem Cx.Ok.nofr (ok:X.Ok) {b:Addr} {o:Obj} (e:X.base.get? b=some o):b ∉ X.fs:=fun hb=>by
 have:=(ok.funs.mem hb).1
 rw [e] at this;cases this
theorem Inv.bs (I:Inv X pins σ H s):∀ b o,X.base.get? b=some o->s.heap.get? b=some o∧H b=none:=fun b o e=>
 ⟨I.base.keep b o (I.ok.bs b o e).1 (I.ok.bs b o e).2 (I.ok.nofr e) (I.ok.noex b o e),I.base.free b o (I.ok.bs b o e).1 (I.ok.bs b o e).2 (I.ok.noex b o e)⟩
theorem Inv.bk (I:Inv X pins σ H s):∀ b o,X.base.get? b=some o->s.heap.get? b=some o:=fun b o e=>(I.bs b o e).1
theorem Inv.mod (I:Inv X pins σ H s):Mod X.K X.mg X.base:=I.ok.mod
theorem Inv.kIn (I:Inv X pins σ H s):X.K.In s.heap:=I.ok.mod.kin.keeps I.bk
theorem Inv.nolimit (I:Inv X pins σ H s):s.heap.NoLimit:=I.ok.mod.nolimit.keeps I.bk
theorem Inv.fr (I:Inv X pins σ H s):∃ m,Fr X.base X.env.locals s.heap m:=
 let ⟨m,hn,_⟩:=I.loc
 ⟨m,hn,I.bk,Nat.le_trans I.ok.bsz I.ok.above⟩
theorem Inv.lt (I:Inv X pins σ H s):X.env.locals<s.heap.objs.size:=let ⟨_,hn,_⟩:=I.loc;hn.lt
theorem Inv.sz (I:Inv X pins σ H s):X.s₀.heap.objs.size<=s.heap.objs.size:=Nat.le_trans I.ok.above (Nat.le_of_lt I.lt)
theorem Inv.nofs (I:Inv X pins σ H s) {a:Addr} (h:s.heap.objs.size<=a):a ∉ X.fs:=fun hb=>by
 obtain ⟨_,o,ho,_⟩:=I.ok.funs.mem hb
 exact absurd (Nat.lt_of_lt_of_le (Heap.lt_size ho) (Nat.le_trans I.sz h)) (Nat.lt_irrefl _)
theorem Inv.cne (I:Inv X pins σ H s):∀ x c,X.env.cells.lookup x=some c->c≠X.env.locals:=fun x c e z=>by
 obtain ⟨v,o,ho,hd⟩:=I.cell x c e
 obtain ⟨m,⟨o',es,ep,ho',hd',_⟩,_⟩:=I.loc
 rw [z,ho'] at ho;cases ho;rw [hd'] at hd;cases hd
theorem Inv.funs (I:Inv X pins σ H s):s.heap.FunFrames X.base X.outer:=by
 have all:∀ (l:List Env),(∀ b∈frs l,b∈X.fs)->X.s₀.heap.FunFrames X.base l->s.heap.FunFrames X.base l:=by
  intro l
  induction l with
  | nil=>intro _ _;trivial
  | cons env r ih=>
   intro hs hl
   obtain ⟨hk,⟨L,o,hf,hn,ho,hd⟩,hr⟩:=hl
   have hL:L∈X.fs:=hs L (by unfold frs;rw [List.filterMap_cons,hf];exact List.mem_cons_self)
   obtain ⟨sl,e⟩:=I.base.slot L o ho (I.ok.frf L hL) hL fun z=>I.ok.exfs L z hL
   exact ⟨hk,⟨L,_,hf,hn,e,hd⟩,ih (fun b hb=>hs b (by unfold frs;rw [List.filterMap_cons,hf];exact List.mem_cons_of_mem _ hb)) hr⟩
 exact all X.outer (fun _ hb=>hb) I.ok.funs
theorem Inv.stack (I:Inv X pins σ H s):s.heap.FunFrames X.base X.stack:=by
 rcases I.ok.stk with e | ⟨e,hf⟩
 ·rw [e];exact I.funs
 ·rw [e]
  obtain ⟨m,hn,_⟩:=I.loc
  refine .cons (by rw [I.ok.kind];decide) hf hn ?_ I.funs
  exact Heap.get?_none_of_le (Nat.le_trans I.ok.bsz I.ok.above)
theorem Inv.stkSub (I:Inv X pins σ H s):∀ b∈frs X.stack,b∈X.env.locals :: X.fs:=fun b hb=>by
 rcases I.ok.stk with e | ⟨e,hf⟩
 ·rw [e] at hb;exact List.mem_cons_of_mem _ hb
 ·rw [e] at hb
  unfold frs at hb
  rw [List.filterMap_cons,hf] at hb
  exact hb
theorem Inv.stkFree (I:Inv X pins σ H s):∀ b∈frs X.stack,H b=none:=fun b hb=>by
 rcases List.mem_cons.mp (I.stkSub b hb) with e | hb
 ·rw [e];exact I.free
 ·obtain ⟨_,o,ho,_⟩:=I.ok.funs.mem hb
  exact I.base.free b o ho (I.ok.frf b hb) fun z=>I.ok.exfs b z hb
theorem Inv.step {g':Array GenState} {t':Nat} {d':Drawn} {ch:List Addr} (I:Inv X pins σ H s)
  (hch:∀ b∈ch,(b∈X.ex∨X.s₀.heap.objs.size<=b)∧b≠X.env.locals∧(∀ x c,X.env.cells.lookup x=some c->c≠b) ∧ ∀ p∈X.pn++pins,p.1≠b)
  (keep:∀ b o,b≠X.env.locals->b ∉ X.fs->b ∉ ch->s.heap.get? b=some o->H b=none->h'.get? b=some o)
  (slot:∀ b o,b≠X.env.locals->b∈X.fs->b ∉ ch->s.heap.get? b=some o->H b=none -> ∃ sl,h'.get? b=some { o with slots:=sl }) (free:∀ b o,b ∉ ch->s.heap.get? b=some o->H b=none->H' b=none)
  (there:∀ b o,b ∉ ch->s.heap.get? b=some o -> ∃ o',h'.get? b=some o')
  (tups:∀ b xs,H b=some (.tup xs)->H' b=some (.tup xs)) (frzs:∀ b o u,H b=some (.frz o u)->H' b=some (.frz o u)) (tbls:∀ b ps,H b=some (.tbl ps) -> ∃ more,H' b=some (.tbl (ps++more)))
  (ns:∀ m,s.heap.Ns X.env.locals m->h'.Ns X.env.locals m) (hok:HOk X.prog X.w H' h') (hg:AllBare g') :
  Inv X pins σ H' { s with heap:=h',gens:=g',drawn:=d',toks:=t' }:=by
 have neL:∀ b o,X.s₀.heap.get? b=some o->b≠X.env.locals:=fun b o e=>Nat.ne_of_lt (Nat.lt_of_lt_of_le (Heap.lt_size e) I.ok.above)
 have neC:∀ b o,X.s₀.heap.get? b=some o->b ∉ X.ex->b ∉ ch:=fun b o e hx hb=>by
  rcases (hch b hb).1 with z | z
  ·exact hx z
  ·exact absurd (Nat.lt_of_lt_of_le (Heap.lt_size e) z) (Nat.lt_irrefl _)
 have cellK:∀ x c,X.env.cells.lookup x=some c -> ∀ v,s.heap.IsCell c v->h'.IsCell c v:=fun x c e v ⟨o,ho,hd⟩=>by
  have nch:c ∉ ch:=fun z=>(hch c z).2.2.1 x c e rfl
  by_cases hc:c∈X.fs
  ·obtain ⟨sl,q⟩:=slot c o (I.cne x c e) hc nch ho (I.freeC x c e)
   exact ⟨_,q,hd⟩
  ·exact ⟨o,keep c o (I.cne x c e) hc nch ho (I.freeC x c e),hd⟩
 refine ⟨I.ok,I.os,hg,⟨fun b o e n hb hx=>?_,fun b o e n hb hx=>?_,fun b o e n hx=>?_,fun b o e hx=>?_,fun b xs e=>tups b xs (I.base.tups b xs e),fun b o xs e=>frzs b o xs (I.base.frzs b o xs e),fun b ps e=>?_⟩,?_,fun x c e=>?_,?_,fun x c e=>?_,fun p hp=>?_,hok,I.len⟩
 ·exact keep b o (neL b o e) hb (neC b o e hx) (I.base.keep b o e n hb hx) (I.base.free b o e n hx)
 ·obtain ⟨sl,e1⟩:=I.base.slot b o e n hb hx
  obtain ⟨sl',e2⟩:=slot b _ (neL b o e) hb (neC b o e hx) e1 (I.base.free b o e n hx)
  exact ⟨sl',e2⟩
 ·obtain ⟨o',e1⟩:=I.base.there b o e hx
  exact free b o' (neC b o e hx) e1 (I.base.free b o e n hx)
 ·obtain ⟨o',e1⟩:=I.base.there b o e hx
  exact there b o' (neC b o e hx) e1
 ·obtain ⟨m1,e1⟩:=I.base.tbls b ps e
  obtain ⟨m2,e2⟩:=tbls b _ e1
  exact ⟨m1++m2,by rw [e2,Array.append_assoc]⟩
 ·obtain ⟨m,hn,hl⟩:=I.loc
  refine ⟨m,ns m hn,fun i x v e1 e2 e3=>?_⟩
  obtain ⟨u,r,l⟩:=hl i x v e1 e2 e3
  refine ⟨u,r,?_⟩
  rcases l with l | ⟨k,c,e,z⟩
  ·exact .inl l
  ·exact .inr ⟨k,c,e,cellK x c e _ z⟩
 ·obtain ⟨v,z⟩:=I.cell x c e
  exact ⟨v,cellK x c e v z⟩
 ·obtain ⟨m,⟨o,_,_,ho,_⟩,_⟩:=I.loc
  exact free _ o (fun z=>(hch _ z).2.1 rfl) ho I.free
 ·obtain ⟨v,o,ho,hd⟩:=I.cell x c e
  exact free c o (fun z=>(hch c z).2.2.1 x c e rfl) ho (I.freeC x c e)
 ·obtain ⟨e,n,ne,nf,d⟩:=I.pin p hp
  have nch:p.1 ∉ ch:=fun z=>(hch p.1 z).2.2.2 p hp rfl
  exact ⟨keep p.1 p.2 ne nf nch e n,free p.1 p.2 nch e n,ne,nf,d⟩
theorem Inv.un {t':Nat} (I:Inv X pins σ H s) (u:Un X.fs [] H H' s.heap h') (hok:HOk X.prog X.w H' h'):Inv X pins σ H' { s with heap:=h',toks:=t' }:=by
 obtain ⟨m,⟨o,es,ep,ho,r⟩,_⟩:=id I.loc
 obtain ⟨sl,hL⟩:=u.any ho I.free (by simp)
 exact I.step (g':=s.gens) (d':=s.drawn) (ch:=[]) (fun _ z=>nomatch z) (fun b o _ hb _ e n=>u.keep b o e n hb (by simp)) (fun b o _ hb _ e n=>u.slot b o e n hb (by simp)) (fun b o _ e n=>u.free b o e n (by simp)) (fun b o _ e=>u.there b o e (by simp)) u.tups u.frzs u.tbls (fun m' hm=>by
  obtain ⟨o',es',ep',ho',r'⟩:=hm
  rw [ho] at ho';cases ho'
  exact ⟨_,es',ep',hL,r'⟩) hok I.bare
theorem Inv.call {g':Array GenState} {t':Nat} {d':Drawn} {ch:List Addr} (I:Inv X pins σ H s) (u:Un (frs X.stack) ch H H' s.heap h') (hok:HOk X.prog X.w H' h') (hg:AllBare g')
  (hch:∀ b∈ch,(b∈X.ex∨X.s₀.heap.objs.size<=b)∧b≠X.env.locals∧(∀ x c,X.env.cells.lookup x=some c->c≠b) ∧ ∀ p∈X.pn++pins,p.1≠b) :
  Inv X pins σ H' { s with heap:=h',gens:=g',drawn:=d',toks:=t' }:=by
 obtain ⟨m,⟨o,es,ep,ho,r⟩,_⟩:=id I.loc
 obtain ⟨sl,hL⟩:=u.any ho I.free fun z=>(hch _ z).2.1 rfl
 exact I.step (ch:=ch) hch (fun b o hL hb hc e n=>u.keep b o e n (fun z=>(List.mem_cons.mp (I.stkSub b z)).elim hL hb) hc) (fun b o _ _ hc e n=>u.any e n hc) (fun b o hc e n=>u.free b o e n hc) (fun b o hc e=>u.there b o e hc) u.tups u.frzs u.tbls (fun m' hm=>by
  obtain ⟨o',es',ep',ho',r'⟩:=hm
  rw [ho] at ho';cases ho'
  exact ⟨_,es',ep',hL,r'⟩) hok hg
theorem Inv.turned {t':Nat} {it:Addr} (I:Inv X pins σ H s) (k:∀ b o,b≠it->s.heap.get? b=some o->h'.get? b=some o) (hn:H it=none) (hL:it≠X.env.locals)
  (h1:it∈X.ex∨X.s₀.heap.objs.size<=it) (h2:∀ x c,X.env.cells.lookup x=some c->c≠it) (h3:∀ p∈X.pn++pins,p.1≠it):Inv X pins σ H { s with heap:=h',toks:=t' }:=by
 have nit:∀ b u,H b=some u->b≠it:=fun b u e z=>by rw [z,hn] at e;cases e
 refine I.step (g':=s.gens) (d':=s.drawn) (ch:=[it]) (fun b hb=>?_) (fun b o _ _ hc e _=>k b o (fun z=>hc (by simp [z])) e) (fun b o _ _ hc e _=>⟨o.slots,k b o (fun z=>hc (by simp [z])) e⟩) (fun _ _ _ _ n=>n)
  (fun b o hc e=>⟨o,k b o (fun z=>hc (by simp [z])) e⟩) (fun _ _ e=>e) (fun _ _ _ e=>e) (fun b ps e=>⟨#[],by rw [e];simp⟩) (fun m hm=>?_) (fun b u e=>?_) I.bare
 ·have e:b=it:=by simpa using hb
  subst e
  exact ⟨h1,hL,h2,h3⟩
 ·obtain ⟨o,es,ep,ho,r⟩:=hm
  exact ⟨o,es,ep,k _ o (Ne.symm hL) ho,r⟩
 ·refine (I.hok b u e).stay (fun c v hc q=>k c v ?_ q) (fun _ q=>q) fun _ _ q=>q
  rcases hc with z | z
  ·rw [z];exact nit b u e
  ·exact nit c _ z
theorem Inv.tok (I:Inv X pins σ H s) (t:Nat):Inv X pins σ H { s with toks:=t }:=I.un (h':=s.heap) (t':=t) Un.refl I.hok
theorem Inv.kept {t':Nat} (I:Inv X pins σ H s) (k:∀ b u,s.heap.get? b=some u->h'.get? b=some u):Inv X pins σ H { s with heap:=h',toks:=t' }:=I.un (Un.kept k) (I.hok.kept k)
theorem Inv.laid {a:Addr} {o:HO} {t':Nat} (I:Inv X pins σ H s) (k:∀ b u,s.heap.get? b=some u->h'.get? b=some u) (hp:s.heap.objs.size<=a) (new:fK X.prog X.w (upd H a o) h' a o) :
  Inv X pins σ (upd H a o) { s with heap:=h',toks:=t' }:=I.un (Un.laid k hp (I.hok.fresh hp)) (I.hok.laid k hp new)
theorem Inv.write {x e:Addr} {o:HO} {t':Nat} (I:Inv X pins σ H s) (mu:Mut (H x)) (he:e=x∨H e=some (.own x)) (k:∀ b u,b≠e->s.heap.get? b=some u->h'.get? b=some u) (heo:∃ u,h'.get? e=some u)
  (new:fK X.prog X.w (upd H x o) h' x o):Inv X pins σ (upd H x o) { s with heap:=h',toks:=t' }:=I.un (Un.write mu he k heo) (I.hok.write mu he k heo new)
theorem Inv.pins_of {pins':List (Addr×Obj)} (I:Inv X pins σ H s) (h:∀ p∈pins',s.heap.get? p.1=some p.2∧H p.1=none∧p.1≠X.env.locals∧p.1 ∉ X.fs ∧ ∀ v,p.2.data ≠ .cell v):Inv X pins' σ H s:=
 ⟨I.ok,I.os,I.bare,I.base,I.loc,I.cell,I.free,I.freeC,fun p hp=>(List.mem_append.mp hp).elim (fun z=>I.pin p (List.mem_append_left _ z)) (h p),I.hok,I.len⟩
theorem CK {N:List Str} (hN:N.Nodup) {i j:Nat} {x:Str} (a:N[i]? = some x) (b:N[j]? = some x):i=j:=by
 obtain ⟨h1,e1⟩:=List.getElem?_eq_some_iff.mp a
 obtain ⟨h2,e2⟩:=List.getElem?_eq_some_iff.mp b
 exact (List.getElem_inj hN).mp (e1.trans e2.symm)
theorem yN {M:Model} {A:Around} {E:Value->Shared->Prop} {i:Nat} {x:Str} {v:V} {u:Value} {Q:Unit->Shared->Prop} (I:Inv X pins σ H s) (hN:X.N.Nodup) (hi:X.N[i]? = some x) (hx:Loc X.env.scope x) (r:RelV v u)
  (h:∀ s',Inv X pins (σ.set i (some v)) H s'->(∃ a,Heap.SameBut a s.heap s'.heap∧(a=X.env.locals∨X.env.cells.lookup x=some a))->Q () s') (hf:X.fn x=true∨X.env.scope.names.lookup x=some .local:=by first | exact .inl rfl | exact .inr rfl | assumption):wpAny M A (storeName X.env x u) Q E s:=by
 obtain ⟨m,hn,hl⟩:=id I.loc
 have hcls:(X.env.scope.kind == .class||(X.env.scope.kind == .module&&X.env.locals != X.env.globals))=false:=by rw [I.ok.kind];rfl
 have hiσ : i < σ.length:=by rw [I.len];exact (List.getElem?_eq_some_iff.mp hi).1
 have cne:=I.cne
 have tracked:∀ {a:Addr} {h':Heap},(∃ o,s.heap.get? a=some o∧H a=none)->Heap.SameBut a s.heap h'->HOk X.prog X.w H h':=fun {a h'} ha hs b ob e=>by
  obtain ⟨_,_,hfree⟩:=ha
  refine (I.hok b ob e).stay (fun c w' hc q=>(hs.2 c ?_).trans q) (fun _ q=>q) fun _ _ q=>q
  rintro rfl
  rcases hc with rfl | hc
  ·rw [hfree] at e;cases e
  ·rw [hfree] at hc;cases hc
 rcases hx with hk | hk
 ·refine wpAny_storeName_local hk hn (fun h' hn' hs=>?_) hcls
  obtain ⟨oL,_,_,hoL,_⟩:=id hn
  refine h _ ⟨I.ok,I.os,I.bare,⟨fun b o e n hb hx=>?_,fun b o e n hb hx=>?_,I.base.free,fun b o e hx=>?_,I.base.tups,I.base.frzs,I.base.tbls⟩,⟨_,hn',fun j y v' e1 e2 e3=>?_⟩,fun y c e=>?_,I.free,I.freeC,fun p hp=>?_,tracked ⟨oL,hoL,I.free⟩ hs,by simpa using I.len⟩ ⟨_,hs,.inl rfl⟩
  ·exact (hs.2 b (Nat.ne_of_lt (Nat.lt_of_lt_of_le (Heap.lt_size e) I.ok.above))).trans (I.base.keep b o e n hb hx)
  ·obtain ⟨sl,e1⟩:=I.base.slot b o e n hb hx
   exact ⟨sl,(hs.2 b (Nat.ne_of_lt (Nat.lt_of_lt_of_le (Heap.lt_size e) I.ok.above))).trans e1⟩
  ·obtain ⟨o',e1⟩:=I.base.there b o e hx
   exact ⟨o',(hs.2 b (Nat.ne_of_lt (Nat.lt_of_lt_of_le (Heap.lt_size e) I.ok.above))).trans e1⟩
  ·by_cases hj:j=i
   ·subst hj
    rw [hi] at e1;cases e1
    rw [List.getElem?_set_self hiσ] at e2
    cases e2
    exact ⟨u,r,.inl ⟨hk,by simp⟩⟩
   ·rw [List.getElem?_set_ne (Ne.symm hj)] at e2
    obtain ⟨u',r',q⟩:=hl j y v' e1 e2 e3
    refine ⟨u',r',?_⟩
    rcases q with ⟨k,e⟩ | ⟨k,c,e,z⟩
    ·refine .inl ⟨k,?_⟩
     have:y≠x:=fun e=>hj (CK hN e1 (e ▸ hi))
     simp [this,e]
    ·exact .inr ⟨k,c,e,z.sameBut hs (cne y c e)⟩
  ·obtain ⟨w',z⟩:=I.cell y c e
   exact ⟨w',z.sameBut hs (cne y c e)⟩
  ·obtain ⟨e,n,ne,nf,d⟩:=I.pin p hp
   exact ⟨(hs.2 p.1 ne).trans e,n,ne,nf,d⟩
 ·have hfn:X.fn x=true:=by
   rcases hf with z | z
   ·exact z
   ·rw [z] at hk;cases hk
  obtain ⟨c,hc⟩:=I.ok.has x (.inl hk)
  obtain ⟨w',z⟩:=I.cell x c hc
  refine wpAny_storeName_cell I.ok.kind hk hc z (fun h' hc' hs=>?_)
  obtain ⟨oc,hoc,hocd⟩:=id z
  refine h { s with heap:=h' } ⟨I.ok,I.os,I.bare,⟨fun b o e n hb hx=>?_,fun b o e n hb hx=>?_,I.base.free,fun b o e hx=>?_,I.base.tups,I.base.frzs,I.base.tbls⟩,⟨m,hn.sameBut hs (Ne.symm (cne x c hc)),fun j y v' e1 e2 e3=>?_⟩,fun y c' e=>?_,I.free,I.freeC,fun p hp=>?_,tracked ⟨oc,hoc,I.freeC x c hc⟩ hs,by simpa using I.len⟩ ⟨c,hs,.inr hc⟩
  ·exact (hs.2 b (Nat.ne_of_lt (Nat.lt_of_lt_of_le (Heap.lt_size e) (I.ok.cab x c hfn hc)))).trans (I.base.keep b o e n hb hx)
  ·obtain ⟨sl,e1⟩:=I.base.slot b o e n hb hx
   exact ⟨sl,(hs.2 b (Nat.ne_of_lt (Nat.lt_of_lt_of_le (Heap.lt_size e) (I.ok.cab x c hfn hc)))).trans e1⟩
  ·obtain ⟨o',e1⟩:=I.base.there b o e hx
   exact ⟨o',(hs.2 b (Nat.ne_of_lt (Nat.lt_of_lt_of_le (Heap.lt_size e) (I.ok.cab x c hfn hc)))).trans e1⟩
  ·by_cases hj:j=i
   ·subst hj
    rw [hi] at e1;cases e1
    rw [List.getElem?_set_self hiσ] at e2
    cases e2
    exact ⟨u,r,.inr ⟨.inl hk,c,hc,hc'⟩⟩
   ·rw [List.getElem?_set_ne (Ne.symm hj)] at e2
    obtain ⟨u',r',q⟩:=hl j y v' e1 e2 e3
    refine ⟨u',r',?_⟩
    rcases q with q | ⟨k,c',e,z'⟩
    ·exact .inl q
    ·refine .inr ⟨k,c',e,z'.sameBut hs ?_⟩
     rintro rfl
     exact hj (CK hN e1 (I.ok.inj _ _ _ e hc ▸ hi))
  ·by_cases hcc:c'=c
   ·subst hcc;exact ⟨_,hc'⟩
   ·obtain ⟨w2,z2⟩:=I.cell y c' e
    exact ⟨w2,z2.sameBut hs hcc⟩
  ·obtain ⟨e,n,ne,nf,d⟩:=I.pin p hp
   refine ⟨(hs.2 p.1 ?_).trans e,n,ne,nf,d⟩
   intro q
   rw [q,hoc] at e
   have q':oc=p.2:=Option.some.inj e
   exact d w' (by rw [← q'];exact hocd)
theorem rH {M:Model} {A:Around} {E:Value->Shared->Prop} {i:Nat} {x:Str} {v:V} {u:Value} {Q:Unit->Shared->Prop} (I:Inv X pins σ H s) (hN:X.N.Nodup) (hi:X.N[i]? = some x) (hx:Loc X.env.scope x) (r:RelV v u)
  (h:∀ s',Inv X pins (σ.set i (some v)) H s'->Q () s') (hf:X.fn x=true∨X.env.scope.names.lookup x=some .local:=by first | exact .inl rfl | exact .inr rfl | assumption):wpAny M A (storeName X.env x u) Q E s:=
 yN I hN hi hx r (fun s' I' _=>h s' I') hf
theorem Inv.call' {s':Shared} {ch:List Addr} (I:Inv X pins σ H s) (ho:s'.os=s.os) (u:Un (frs X.stack) ch H H' s.heap s'.heap) (hok:HOk X.prog X.w H' s'.heap) (hg:AllBare s'.gens)
  (hch:∀ b∈ch,(b∈X.ex∨X.s₀.heap.objs.size<=b)∧b≠X.env.locals∧(∀ x c,X.env.cells.lookup x=some c->c≠b) ∧ ∀ p∈X.pn++pins,p.1≠b):Inv X pins σ H' s':=by
 obtain ⟨h',g',d',t',o'⟩:=s'
 have e:o'=s.os:=ho
 subst e
 exact I.call (g':=g') (t':=t') (d':=d') u hok hg hch
end
abbrev XK:=Value->Option Addr->Hp->Prop
abbrev St:=List (Option V)
abbrev VK:=V->Hp->Prop
abbrev TE:=St->Hp->VK->Prop
abbrev TT:=St->Hp->(Bool->Hp->Prop)->Prop
abbrev TA:=St->Hp->(List V->Hp->Prop)->Prop
structure Ends where
 nx:St->Hp->Prop
 rt:VK
 bk:St->Hp->Prop:=fun _ _=>False
 ct:St->Hp->Prop:=fun _ _=>False
abbrev TS:=Ends->St->Hp->Prop
def EP (X:Cx) (pins:List (Addr×Obj)) (σ : St) (Q:VK) (u:Value) (s':Shared):Prop:=∃ v H',Inv X pins σ H' s'∧RelV v u∧Q v H'
def TP (X:Cx) (pins:List (Addr×Obj)) (σ : St) (Q:Bool->Hp->Prop) (b:Bool) (s':Shared):Prop:=∃ H',Inv X pins σ H' s'∧Q b H'
def AP (X:Cx) (pins:List (Addr×Obj)) (σ : St) (Q:List V->Hp->Prop) (us:List Value) (s':Shared):Prop:=∃ vs H',Inv X pins σ H' s'∧Vals vs us∧Q vs H'
def SP (X:Cx) (pins:List (Addr×Obj)) (D:Ends) (f:Flow) (s':Shared):Prop:=
 match f with
 | .next=>∃ σ' H',Inv X pins σ' H' s'∧D.nx σ' H'
 | .brk=>∃ σ' H',Inv X pins σ' H' s'∧D.bk σ' H'
 | .cont=>∃ σ' H',Inv X pins σ' H' s'∧D.ct σ' H'
 | .ret u=>∃ v σ' H',Inv X pins σ' H' s'∧RelV v u∧D.rt v H'
def PE (X:Cx) (e:Expr) (t:TE):Prop:=
 ∀ (pins:List (Addr×Obj)) (s:Shared) (σ : St) (H:Hp) (Q:VK),Inv X pins σ H s->t σ H Q->wpAny (model X.prog X.w) X.A (eval e X.env) (EP X pins σ Q) X.xe s
def PT (X:Cx) (e:Expr) (t:TT):Prop:=
 ∀ (pins:List (Addr×Obj)) (s:Shared) (σ : St) (H:Hp) (Q:Bool->Hp->Prop),Inv X pins σ H s->t σ H Q->wpAny (model X.prog X.w) X.A (isTrue e X.env (eval e X.env)) (TP X pins σ Q) X.xe s
def PW (X:Cx) (e:Expr) (t:TT):Prop:=
 ∀ (whole:Sem Value) (pins:List (Addr×Obj)) (s:Shared) (σ : St) (H:Hp) (Q:Bool->Hp->Prop),Inv X pins σ H s->t σ H Q->wpAny (model X.prog X.w) X.A (isTrue e X.env whole) (TP X pins σ Q) X.xe s
theorem PW.pt {X:Cx} {e:Expr} {t:TT} (h:PW X e t):PT X e t:=h _
def PA (X:Cx) (es:List Expr) (t:TA):Prop:=
 ∀ (pos:Pos) (pins:List (Addr×Obj)) (s:Shared) (σ : St) (H:Hp) (Q:List V->Hp->Prop),Inv X pins σ H s->t σ H Q->wpAny (model X.prog X.w) X.A (spliced (backTo pos (starEach es X.env))) (AP X pins σ Q) X.xe s
def PS (X:Cx) (st:Stmt) (t:TS):Prop:=
 ∀ (pins:List (Addr×Obj)) (s:Shared) (σ : St) (H:Hp) (D:Ends),Inv X pins σ H s->t D σ H->wpAny (model X.prog X.w) X.A (exec st X.env) (SP X pins D) X.xe s
def PSs (X:Cx) (st:List Stmt) (t:TS):Prop:=
 ∀ (pins:List (Addr×Obj)) (s:Shared) (σ : St) (H:Hp) (D:Ends),Inv X pins σ H s->t D σ H->wpAny (model X.prog X.w) X.A (execs st X.env) (SP X pins D) X.xe s
theorem thn {α : Type} {t:Sem α} {Q Q' : α -> Shared->Prop} {M:Model} {A:Around} {E:Value->Shared->Prop} {s:Shared} (h:wpAny M A t Q E s) (hQ:∀ a s,Q a s->Q' a s):wpAny M A t Q' E s:=wpAny_mono h hQ fun _ _ x=>x
end L2
namespace L2
open PySem PySem.Spec PyProof.Rows
section
variable {X:Cx}
def xM (i:Nat):TE:=fun σ H Q=>∃ v,σ[i]? = some (some v)∧Q v H
def tC (v:V):TE:=fun _ H Q=>Q v H
theorem qt {i:Nat} {x:Str} {pos:Pos} (hN:X.N[i]? = some x) (hv:Vis X.env.scope x) (hd:(x==("__debug__" : Str))=false:=by decide) (hcd:(x==("__classdict__" : Str))=false:=by decide):PE X (.Name x pos) (xM i):=by
 intro pins s σ H Q I h
 obtain ⟨v,e,h⟩:=h
 obtain ⟨m,hn,hl⟩:=I.loc
 obtain ⟨u,r,l⟩:=hl i x v hN e hv
 have fin:EP X pins σ Q u s:=⟨v,H,I,r,h⟩
 rcases l with ⟨hk,hm⟩ | ⟨hk,c,hc,hcell⟩
 ·exact wpAny_Name (wpAny_loadName_local I.ok.kind hk hn hm fin) hd
 ·rcases hk with hk | hk
  ·exact wpAny_Name (wpAny_loadName_cell I.ok.kind hk hc hcell fin) hd
  ·exact wpAny_Name (wpAny_loadName_free I.ok.kind hk hc hcell fin hcd) hd
theorem VD {i j pos}:PE X (.Constant (.int i) j pos) (tC (.int i)):=fun _ _ _ H _ I h=>wpAny_Constant_int ⟨.int i,H,I.tok _,⟨_,rfl⟩,h⟩
theorem XM {b j pos}:PE X (.Constant (.bool b) j pos) (tC (.bl b)):=fun _ _ _ H _ I h=>Constant_bool ⟨.bl b,H,I,rfl,h⟩
theorem VG {j pos}:PE X (.Constant .none j pos) (tC .non):=fun _ _ _ H _ I h=>Constant_none ⟨.non,H,I,rfl,h⟩
def Gl (X:Cx) (x:Str):Prop:=X.env.kindOf x=some .globalImplicit
theorem QM {E:Value->Shared->Prop} {pins:List (Addr×Obj)} {s:Shared} {σ : St} {H:Hp} {x:Str} {u:Value} {pos:Pos} {Q:Value->Shared->Prop} (I:Inv X pins σ H s) (hg:Gl X x) (hm:X.mg x=some u) (h:Q u s)
  (hd:(x==("__debug__" : Str))=false:=by decide):wpAny (model X.prog X.w) X.A (eval (.Name x pos) X.env) Q E s:=
 Calls.Name_function_global I.ok.kind hg (Calls.loadGlobal_global (by rw [I.ok.glob];exact I.mod.glob.keeps I.bk) hm h) hd
theorem jx {E:Value->Shared->Prop} {pins:List (Addr×Obj)} {s:Shared} {σ : St} {H:Hp} {x:Str} {u:Value} {pos:Pos} {Q:Value->Shared->Prop} (I:Inv X pins σ H s) (hg:Gl X x) (hm:X.mg x=none) (hv:bootBuiltins x=some u) (h:Q u s)
  (hn:x ≠ "__name__":=by decide) (hd:(x==("__debug__" : Str))=false:=by decide):wpAny (model X.prog X.w) X.A (eval (.Name x pos) X.env) Q E s:=by
 obtain ⟨mb,h1,h2⟩:=I.mod.blt
 exact Calls.Name_function_global I.ok.kind hg (Calls.loadGlobal_builtin (by rw [I.ok.glob];exact I.mod.glob.keeps I.bk) hm (by rw [I.ok.blt];exact h1.keeps I.bk) ((h2 x hn).trans hv) h) hd
theorem Rj {x:Str} {v:V} {u:Value} {pos:Pos} (hg:Gl X x) (hm:X.mg x=none) (hv:bootBuiltins x=some u) (r:RelV v u) (hn:x ≠ "__name__":=by decide) (hd:(x==("__debug__" : Str))=false:=by decide):PE X (.Name x pos) (tC v):=
 fun _ _ _ H _ I h=>jx I hg hm hv ⟨v,H,I,r,h⟩ hn hd
variable {a b:Expr} {ta tb:TE} {pos:Pos}
variable {tA tB':TT} {rest:List Expr}
def tOr (t u:TT):TT:=fun σ H Q=>t σ H fun c H1=>if c=true then Q true H1 else u σ H1 Q
def Zo (t:TT):TT:=fun σ H Q=>t σ H fun c H1=>Q (!c) H1
theorem Wc (ha:PT X a tA):PW X (.BoolOp .Or [a] pos) tA:=by
 intro wh pins s σ H Q I h
 refine isTrue_or (thn (ha pins s σ H Q I h) fun c s1 e=>?_)
 cases c with
 | false=>exact isTrue_or_nil e
 | true=>exact e
theorem Yc (ha:PT X a tA) (hb:PW X (.BoolOp .Or (b :: rest) pos) tB'):PW X (.BoolOp .Or (a :: b :: rest) pos) (tOr tA tB'):=by
 intro wh pins s σ H Q I h
 refine isTrue_or (thn (ha pins s σ H _ I h) fun c s1 ⟨H1,I1,q1⟩=>?_)
 cases c with
 | true=>exact ⟨H1,I1,q1⟩
 | false=>exact hb wh pins s1 σ H1 Q I1 q1
theorem Wb (ha:PT X a tA):PT X (.UnaryOp .Not a pos) (Zo tA):=by
 intro pins s σ H Q I h
 exact isTrue_not (ha pins s σ H (fun c H1=>Q (!c) H1) I h)
def Yz (ta tb:TE):TE:=fun σ H Q=>ta σ H fun x H1=>∃ c,x = .bl c∧if c=true then tb σ H1 Q else Q (.bl false) H1
def Zq (ta tb:TE):TE:=fun σ H Q=>ta σ H fun x H1=>∃ c,x = .bl c∧if c=true then Q (.bl true) H1 else tb σ H1 Q
def YG (ta:TE):TE:=fun σ H Q=>ta σ H fun x H1=>∃ c,x = .bl c∧Q (.bl (!c)) H1
theorem VJ {op} {t:TE} (h:PE X a t):PE X (.BoolOp op [a] pos) t:=fun pins s σ H Q I hw=>BoolOp_one (h pins s σ H Q I hw)
theorem Vz (ha:PE X a ta) (hb:PE X (.BoolOp .And (b :: rest) pos) tb):PE X (.BoolOp .And (a :: b :: rest) pos) (Yz ta tb):=by
 intro pins s σ H Q I h
 refine BoolOp_and (thn (ha pins s σ H _ I h) fun v s1 ⟨x,H1,I1,r1,q1⟩=>?_)
 obtain ⟨c,rfl,q1⟩:=q1
 cases r1
 refine wpAny_truthy_bool ?_
 cases c with
 | true=>exact hb pins s1 σ H1 Q I1 q1
 | false=>exact ⟨.bl false,H1,I1,rfl,q1⟩
theorem XR (ha:PE X a ta) (hb:PE X (.BoolOp .Or (b :: rest) pos) tb):PE X (.BoolOp .Or (a :: b :: rest) pos) (Zq ta tb):=by
 intro pins s σ H Q I h
 refine BoolOp_or (thn (ha pins s σ H _ I h) fun v s1 ⟨x,H1,I1,r1,q1⟩=>?_)
 obtain ⟨c,rfl,q1⟩:=q1
 cases r1
 refine wpAny_truthy_bool ?_
 cases c with
 | false=>exact hb pins s1 σ H1 Q I1 q1
 | true=>exact ⟨.bl true,H1,I1,rfl,q1⟩
theorem VH (ha:PE X a ta):PE X (.UnaryOp .Not a pos) (YG ta):=by
 intro pins s σ H Q I h
 refine UnaryOp_ (thn (ha pins s σ H _ I h) fun v s1 ⟨x,H1,I1,r1,q1⟩=>?_)
 obtain ⟨c,rfl,q1⟩:=q1
 cases r1
 exact not_of (wpAny_truthy_bool ⟨.bl (!c),H1,I1,rfl,q1⟩)
def tIf (t:TT) (ta tb:TE):TE:=fun σ H Q=>t σ H fun c H1=>if c=true then ta σ H1 Q else tb σ H1 Q
theorem Nj {c:Expr} (hc:PT X c tA) (ha:PE X a ta) (hb:PE X b tb):PE X (.IfExp c a b pos) (tIf tA ta tb):=by
 intro pins s σ H Q I h
 refine wpAny_IfExp (thn (hc pins s σ H _ I h) fun d s1 ⟨H1,I1,q1⟩=>?_)
 cases d with
 | true=>exact ha pins s1 σ H1 Q I1 q1
 | false=>exact hb pins s1 σ H1 Q I1 q1
end
end L2
namespace L2
open PySem PySem.Spec PyProof.Rows
def SqL (K:PySem.W.Frag) (H:Hp) (a:Addr) (xs:List V):Prop:=
 Rd H a (.lst xs) ∨
  ∃ (o:Obj) (its:Array Value) (n:Nat),K.lookup a=some o∧o.cls = .type "list" ∧ o.dict=none∧o.data = .seq its n∧its.size<=sizeLine∧Vals xs its.toList
def SqT (K:PySem.W.Frag) (H:Hp) (a:Addr) (xs:List V):Prop:=
 Rd H a (.tup xs) ∨
  ∃ (o:Obj) (its:Array Value) (n:Nat),K.lookup a=some o∧o.cls = .type "tuple" ∧ o.data = .seq its n∧its.size<=sizeLine∧Vals xs its.toList
def YW:Value->Option V
 | .none=>some .non
 | .bool b=>some (.bl b)
 | .int i _=>some (.int i)
 | .str x _=>some (.str x)
 | .bytes b _=>some (.byt b)
 | .float b _=>some (.flt b)
 | .ref a=>some (.ref a)
 | .type n=>some (.ty n)
 | _=>none
theorem RelV.abs {x:V} {u:Value} (r:RelV x u):YW u=some x:=by
 cases x with
 | non=>cases r;rfl
 | bl _=>cases r;rfl
 | int _=>obtain ⟨t,rfl⟩:=r;rfl
 | str _=>obtain ⟨t,rfl⟩:=r;rfl
 | byt _=>obtain ⟨t,rfl⟩:=r;rfl
 | flt _=>obtain ⟨t,rfl⟩:=r;rfl
 | ref _=>cases r;rfl
 | ty _=>cases r;rfl
theorem RelV.inj {x y:V} {u:Value} (r:RelV x u) (q:RelV y u):x=y:=Option.some.inj (r.abs.symm.trans q.abs)
theorem Vals.inj:∀ {xs ys:List V} {us:List Value},Vals xs us->Vals ys us->xs=ys
 | _,_,_,.nil,.nil=>rfl
 | _,_,_,.cons r t,.cons r' t'=>by rw [r.inj r',Vals.inj t t']
section
variable {X:Cx} {pins:List (Addr×Obj)} {σ : St} {H:Hp} {s:Shared} {a:Addr} {xs ys:List V}
theorem SqL.of {K:PySem.W.Frag} (h:H a=some (.lst xs)):SqL K H a xs:=.inl (.inl h)
theorem SqT.of {K:PySem.W.Frag} (h:H a=some (.tup xs)):SqT K H a xs:=.inl (.inl h)
theorem Inv.list (I:Inv X pins σ H s) (h:SqL X.K H a xs):∃ its:List Value,Vals xs its∧PlainL s.heap a its.toArray∧xs.length<=sizeLine:=by
 rcases h with h | ⟨o,its,n,hk,hc,hd,hs,hz,r⟩
 ·obtain ⟨z,its,n,r,e⟩:=h.ok I.hok
  exact ⟨its,r,⟨_,n,e,rfl,rfl,rfl⟩,z⟩
 ·refine ⟨its.toList,r,⟨o,n,I.kIn a o hk,hc,hd,by simpa using hs⟩,?_⟩
  have e:=r.length
  simp only [Array.length_toList] at e
  omega
theorem Inv.tuple (I:Inv X pins σ H s) (h:SqT X.K H a xs):∃ its:List Value,Vals xs its∧IsTup s.heap a its.toArray∧xs.length<=sizeLine:=by
 rcases h with h | ⟨o,its,n,hk,hc,hs,hz,r⟩
 ·obtain ⟨z,its,r,p⟩:=h.ok I.hok
  exact ⟨its,r,p,z⟩
 ·refine ⟨its.toList,r,⟨o,I.kIn a o hk,hc,n,by simpa using hs⟩,?_⟩
  have e:=r.length
  simp only [Array.length_toList] at e
  omega
theorem Inv.list_inj (I:Inv X pins σ H s) (h:SqL X.K H a xs) (h':SqL X.K H a ys):xs=ys:=by
 obtain ⟨its,r,⟨o,n,e,_,_,d⟩,_⟩:=I.list h
 obtain ⟨its',r',⟨o',n',e',_,_,d'⟩,_⟩:=I.list h'
 rw [e] at e';cases e'
 rw [d] at d'
 injection d' with d1 _
 have:its=its':=by simpa using congrArg Array.toList d1
 subst this
 exact r.inj r'
theorem Inv.tuple_inj (I:Inv X pins σ H s) (h:SqT X.K H a xs) (h':SqT X.K H a ys):xs=ys:=by
 obtain ⟨its,r,⟨o,e,_,n,d⟩,_⟩:=I.tuple h
 obtain ⟨its',r',⟨o',e',_,n',d'⟩,_⟩:=I.tuple h'
 rw [e] at e';cases e'
 rw [d] at d'
 injection d' with d1 _
 have:its=its':=by simpa using congrArg Array.toList d1
 subst this
 exact r.inj r'
end
abbrev Cx.wish (X:Cx) (E:Value->Shared->Prop):Cx:={ X with xe:=E }
abbrev Cx.nox (X:Cx):Cx:=X.wish fun _ _=>False
theorem Cx.Ok.wish {X:Cx} (ok:X.Ok) (E:Value->Shared->Prop):(X.wish E).Ok:=
 ⟨ok.mod,ok.kind,ok.glob,ok.blt,ok.above,ok.inj,ok.has,ok.cab,ok.hd,ok.frames,ok.stk,ok.exf,ok.bs,ok.bsz,ok.noex,ok.exfs,ok.funs,ok.frf⟩
theorem Cx.Ok.unwish {X:Cx} {E:Value->Shared->Prop} (ok:(X.wish E).Ok):X.Ok:=
 ⟨ok.mod,ok.kind,ok.glob,ok.blt,ok.above,ok.inj,ok.has,ok.cab,ok.hd,ok.frames,ok.stk,ok.exf,ok.bs,ok.bsz,ok.noex,ok.exfs,ok.funs,ok.frf⟩
section
variable {X:Cx} {pins:List (Addr×Obj)} {σ : St} {H:Hp} {s:Shared} {E:Value->Shared->Prop}
theorem Inv.wish (I:Inv X pins σ H s) (E:Value->Shared->Prop):Inv (X.wish E) pins σ H s:=⟨I.ok.wish E,I.os,I.bare,I.base,I.loc,I.cell,I.free,I.freeC,I.pin,I.hok,I.len⟩
theorem Inv.unwish (I:Inv (X.wish E) pins σ H s):Inv X pins σ H s:=⟨I.ok.unwish,I.os,I.bare,I.base,I.loc,I.cell,I.free,I.freeC,I.pin,I.hok,I.len⟩
theorem SP.unwish {D:Ends} {f:Flow} {s':Shared} (h:SP (X.wish E) pins D f s'):SP X pins D f s':=by
 cases f with
 | next=>obtain ⟨σ',H',I,q⟩:=h;exact ⟨σ',H',I.unwish,q⟩
 | brk=>obtain ⟨σ',H',I,q⟩:=h;exact ⟨σ',H',I.unwish,q⟩
 | cont=>obtain ⟨σ',H',I,q⟩:=h;exact ⟨σ',H',I.unwish,q⟩
 | ret u=>obtain ⟨v,σ',H',I,r,q⟩:=h;exact ⟨v,σ',H',I.unwish,r,q⟩
theorem PE.nox {e:Expr} {t:TE} (h:PE X.nox e t):PE X e t:=fun pins s σ H Q I hw=>
 wpAny_mono (h pins s σ H Q (I.wish _) hw) (fun _ _ ⟨v,H',I',r,q⟩=>⟨v,H',I'.unwish,r,q⟩) fun _ _ z=>False.elim z
theorem PT.nox {e:Expr} {t:TT} (h:PT X.nox e t):PT X e t:=fun pins s σ H Q I hw=>
 wpAny_mono (h pins s σ H Q (I.wish _) hw) (fun _ _ ⟨H',I',q⟩=>⟨H',I'.unwish,q⟩) fun _ _ z=>False.elim z
theorem PSs.nox {st:List Stmt} {t:TS} (h:PSs X.nox st t):PSs X st t:=fun pins s σ H D I hw=>
 wpAny_mono (h pins s σ H D (I.wish _) hw) (fun _ _ q=>q.unwish) fun _ _ z=>False.elim z
end
section
variable {X:Cx} {st:Stmt} {rest:List Stmt} {t u:TS} {e:Expr} {te:TE} {pos:Pos}
def YF:TS:=fun D σ H=>D.nx σ H
def Zu (t u:TS):TS:=fun D σ H=>t { D with nx:=u D } σ H
theorem Rw:PSs X [] YF:=fun _ _ σ H _ I h=>wpAny_execs_nil ⟨σ,H,I,h⟩
theorem Ny (h1:PS X st t) (h2:PSs X rest u):PSs X (st :: rest) (Zu t u):=by
 intro pins s σ H D I h
 refine wpAny_execs_cons (thn (h1 pins s σ H { D with nx:=u D } I h) fun f s1 q=>?_)
 cases f with
 | next=>
  obtain ⟨σ',H',I',q⟩:=q
  exact h2 pins s1 σ' H' D I' q
 | ret v=>exact q
 | brk=>exact q
 | cont=>exact q
theorem Rx (h1:PS X st t):PSs X [st] t:=by
 intro pins s σ H D I h
 refine wpAny_execs_cons (thn (h1 pins s σ H D I h) fun f s1 q=>?_)
 cases f with
 | next=>exact wpAny_execs_nil q
 | ret v=>exact q
 | brk=>exact q
 | cont=>exact q
theorem Inv.quiet {pins:List (Addr×Obj)} {σ : St} {H:Hp} {s:Shared} (I:Inv X pins σ H s):interactive X.env=false:=by simp [interactive,I.ok.kind]
def YD (te:TE):TS:=fun D σ H=>te σ H fun _ H1=>D.nx σ H1
theorem Rv (he:PE X e te) (hs:swapsWith e none pos.line X.env=pure false:=by rfl):PS X (.Expr e pos) (YD te):=by
 intro pins s σ H D I h
 exact wpAny_Expr_any (thn (he pins s σ H _ I h) fun v s1 ⟨x,H1,I1,r1,q1⟩=>⟨σ,H1,I1,q1⟩) I.quiet hs
def Zt (te:TE):TS:=fun D σ H=>te σ H D.rt
theorem Nv (he:PE X e te):PS X (.Return (some e) pos) (Zt te):=by
 intro pins s σ H D I h
 exact wpAny_Return_some (thn (he pins s σ H _ I h) fun v s1 ⟨x,H1,I1,r1,q1⟩=>⟨x,σ,H1,I1,r1,q1⟩)
def Zk (c:TT) (t u:TS):TS:=fun D σ H=>c σ H fun b H1=>if b=true then t D σ H1 else u D σ H1
theorem Yb {c:Expr} {a b:List Stmt} {tc:TT} (hc:PT X c tc) (ha:PSs X a t) (hb:PSs X b u):PS X (.If c a b pos) (Zk tc t u):=by
 intro pins s σ H D I h
 refine wpAny_If (thn (hc pins s σ H _ I h) fun d s1 ⟨H1,I1,q1⟩=>?_)
 cases d with
 | true=>exact ha pins s1 σ H1 D I1 q1
 | false=>exact hb pins s1 σ H1 D I1 q1
def Wx:TS:=fun _ _ _=>False
theorem Nu:PS X st Wx:=fun _ _ _ _ _ _ h=>h.elim
end
abbrev TG:=V->St->Hp->(St->Hp->Prop)->Prop
abbrev TGs:=List V->St->Hp->(St->Hp->Prop)->Prop
def PG (X:Cx) (target:Expr) (t:TG):Prop:=
 ∀ (pins:List (Addr×Obj)) (s:Shared) (σ : St) (H:Hp) (v:V) (u:Value) (Q:St->Hp->Prop),Inv X pins σ H s->RelV v u->t v σ H Q ->
  wpAny (model X.prog X.w) X.A (assign target X.env u) (fun _ s'=>∃ σ' H',Inv X pins σ' H' s'∧Q σ' H') X.xe s
def PGs (X:Cx) (ts:List Expr) (t:TGs):Prop:=
 ∀ (pins:List (Addr×Obj)) (s:Shared) (σ : St) (H:Hp) (vs:List V) (us:List Value) (Q:St->Hp->Prop),Inv X pins σ H s->Vals vs us->t vs σ H Q ->
  wpAny (model X.prog X.w) X.A (assignInOrder ((assignEach ts X.env).map (·.2)) us) (fun _ s'=>∃ σ' H',Inv X pins σ' H' s'∧Q σ' H') X.xe s
abbrev JN:=V->V->V->Hp->(Hp->Prop)->Prop
def TY (X:Cx) (t:JN):Prop:=
 ∀ (pins:List (Addr×Obj)) (s:Shared) (σ : St) (H:Hp) (o i v:V) (ov iv u:Value) (Q:Hp->Prop),Inv X pins σ H s->RelV o ov->RelV i iv->RelV v u->t o i v H Q ->
  wpAny (model X.prog X.w) X.A (setItem ov iv u) (fun _ s'=>∃ H',Inv X pins σ H' s'∧Q H') X.xe s
abbrev TIp:=V->V->Hp->VK->Prop
def PIp (X:Cx) (op:Operator) (t:TIp):Prop:=
 ∀ (pins:List (Addr×Obj)) (s:Shared) (σ : St) (H:Hp) (x y:V) (v u:Value) (Q:VK),Inv X pins σ H s->RelV x v->RelV y u->t x y H Q ->
  wpAny (model X.prog X.w) X.A (inplaceOp op v u) (EP X pins σ Q) X.xe s
section
variable {X:Cx} {pos:Pos}
def Lw (i:Nat):TG:=fun v σ H Q=>Q (σ.set i (some v)) H
theorem Rn {i:Nat} {x:Str} (hN:X.N.Nodup) (hi:X.N[i]? = some x) (hx:Loc X.env.scope x) (hf:X.fn x=true∨X.env.scope.names.lookup x=some .local:=by first | exact .inl rfl | exact .inr rfl | assumption):PG X (.Name x pos) (Lw i):=by
 intro pins s σ H v u Q I r h
 exact wpAny_assign_Name (rH I hN hi hx r (fun s' I'=>⟨_,H,I',h⟩) hf)
def Za:TGs:=fun vs σ H Q=>vs=[]∧Q σ H
def Xr (t:TG) (u:TGs):TGs:=fun vs σ H Q=>∃ v r,vs=v :: r∧t v σ H fun σ' H'=>u r σ' H' Q
theorem Ro:PGs X [] Za:=by
 intro pins s σ H vs us Q I r h
 obtain ⟨e,h⟩:=h
 subst e
 cases r
 exact assignInOrder_nil ⟨σ,H,I,h⟩
theorem Np {e:Expr} {es:List Expr} {t:TG} {u:TGs} (h1:PG X e t) (h2:PGs X es u)
  (hs:(assignEach (e :: es) X.env).map (·.2)=assign e X.env :: (assignEach es X.env).map (·.2):=by rfl):PGs X (e :: es) (Xr t u):=by
 intro pins s σ H vs us Q I r h
 obtain ⟨v,vr,e1,h⟩:=h
 subst e1
 cases r with
 | cons r rr=>
  rw [hs]
  refine assignInOrder_cons (thn (h1 pins s σ H _ _ _ I r h) fun _ s1 ⟨σ1,H1,I1,q1⟩=>?_)
  exact h2 pins s1 σ1 H1 _ _ Q I1 rr q1
def Zc (K:PySem.W.Frag) (n:Nat) (t:TGs):TG:=fun v σ H Q=>∃ a xs,v = .ref a∧SqT K H a xs∧xs.length=n∧t xs σ H Q
theorem VN {es:List Expr} {k:Nat} {t:TGs} {n:Nat} (hc:X.calm=true) (h:PGs X es t)
  (hn:(assignEach es X.env).length=n:=by rfl) (hst:(assignEach es X.env).findIdx? (·.1)=none:=by rfl):PG X (.Tuple es k pos) (Zc X.K n t):=by
 intro pins s σ H v u Q I r hw
 obtain ⟨a,xs,e1,hq,hl,hw⟩:=hw
 subst e1
 cases r
 obtain ⟨its,rv,ht,hz⟩:=I.tuple hq
 refine assign_Tuple_tuple (I.ok.hd hc) ht (by simp [hn,← hl,rv.length]) hst fun h' hx=>?_
 have I1:Inv X pins σ H { s with heap:=h' }:=I.kept (t':=s.toks) fun b o e=>hx b o (Nat.ne_of_lt (Heap.lt_size e)) e
 exact h pins _ σ H xs _ Q I1 (by simpa using rv) hw
def Zb (to ti:TE) (t:JN):TG:=fun v σ H Q=>to σ H fun o H1=>ti σ H1 fun i H2=>t o i v H2 fun H3=>Q σ H3
theorem VM {o i:Expr} {to ti:TE} {t:JN} (ho:PE X o to) (hi:PE X i ti) (hs:TY X t)
  (ha:∀ v,assign (.Subscript o i pos) X.env v=(do
   let ov ← holding [v] (eval o X.env)
   let iv ← holding [v,ov] (eval i X.env)
   standAt pos
   holding [v,ov,iv] (setItem ov iv v)
   release [v,ov,iv] []):=by intro _;rfl):PG X (.Subscript o i pos) (Zb to ti t):=by
 intro pins s σ H v u Q I r h
 rw [ha]
 refine wpAny_bind (wpAny_holding (thn (ho pins s σ H _ I h) fun ov s1 ⟨x,H1,I1,r1,q1⟩=>?_))
 refine wpAny_bind (wpAny_holding (thn (hi pins s1 σ H1 _ I1 q1) fun iv s2 ⟨y,H2,I2,r2,q2⟩=>?_))
 refine wpAny_bind (wpAny_standAt (wpAny_bind (wpAny_holding (thn (hs pins s2 σ H2 x y v ov iv u _ I2 r1 r2 r q2) fun _ s3 ⟨H3,I3,q3⟩=>?_))))
 exact wpAny_release ⟨σ,H3,I3,q3⟩
def Ww (te:TE) (g:TG):TS:=fun D σ H=>te σ H fun x H1=>g x σ H1 D.nx
theorem Nt {tg e:Expr} {te:TE} {g:TG} (he:PE X e te) (hg:PG X tg g) (hs:swapsWithSole [tg] e pos.line X.env=pure false:=by rfl) (hw:swappedStores [tg] e X.env=pure none:=by rfl)
  (h1:(assignEach [tg] X.env).map (·.2)=[assign tg X.env]:=by rfl):PS X (.Assign [tg] e pos) (Ww te g):=by
 intro pins s σ H D I h
 refine wpAny_Assign_stores (thn (he pins s σ H _ I h) fun v s1 ⟨x,H1,I1,r1,q1⟩=>?_) hs hw
 rw [h1]
 exact thn (hg pins s1 σ H1 x v _ I1 r1 q1) fun _ s2 q=>q
theorem Wa {i:Nat} {x:Str} {e:Expr} {te:TE} {pos':Pos} (hN:X.N.Nodup) (hi:X.N[i]? = some x) (hx:Loc X.env.scope x) (he:PE X e te) (hs:swapsWith e (some (.Name x pos')) pos.line X.env=pure false:=by rfl) (hf:X.fn x=true∨X.env.scope.names.lookup x=some .local:=by first | exact .inl rfl | exact .inr rfl | assumption) :
  PS X (.Assign [.Name x pos'] e pos) (Ww te (Lw i)):=by
 intro pins s σ H D I h
 refine wpAny_Assign_Name (thn (he pins s σ H _ I h) fun v s1 ⟨y,H1,I1,r1,q1⟩=>?_) hs
 exact rH I1 hN hi hx r1 (fun s2 I2=>⟨_,H1,I2,q1⟩) hf
def Zr (i j:Nat) (ta:TA):TS:=fun D σ H=>ta σ H fun vs H1=>∃ v w,vs=[v,w]∧D.nx ((σ.set i (some v)).set j (some w)) H1
theorem VV {i j:Nat} {x y:Str} {a b:Expr} {ta:TA} {px py pt:Pos} {kt k2 pt2} (hc:X.calm=true) (hN:X.N.Nodup) (hi:X.N[i]? = some x) (hj:X.N[j]? = some y) (hij:i≠j)
  (hx:X.env.scope.names.lookup x=some .local) (hy:X.env.scope.names.lookup y=some .local) (ha:PA X [a,b] ta)
  (hw:swappedStores [.Tuple [.Name x px,.Name y py] kt pt] (.Tuple [a,b] k2 pt2) X.env=pure (some [x,y]))
  (hs:swapsWithSole [.Tuple [.Name x px,.Name y py] kt pt] (.Tuple [a,b] k2 pt2) pos.line X.env=pure false:=by rfl) :
  PS X (.Assign [.Tuple [.Name x px,.Name y py] kt pt] (.Tuple [a,b] k2 pt2) pos) (Zr i j ta):=by
 intro pins s σ H D I h
 rw [exec_Assign_arm]
 refine wpAny_bind (wpAny_standAt ?_)
 rw [hs]
 refine wpAny_bind (wpAny_pure ?_)
 rw [if_neg (by decide)]
 refine wpAny_bind (Tuple_ (thn (ha _ pins s σ H _ I h) fun us s1 ⟨vs,H1,I1,r1,q1⟩=>?_))
 obtain ⟨v,w,e1,q1⟩:=q1
 subst e1
 obtain ⟨u1,u2,rfl,rv,rw'⟩:∃ u1 u2,us=[u1,u2]∧RelV v u1∧RelV w u2:=by
  cases r1 with
  | cons p q=>
   cases q with
   | cons p' q'=>
    cases q'
    exact ⟨_,_,rfl,p,p'⟩
 refine wpAny_newObj_type ?_ (by show 2<=sizeLine;decide)
 have I2:Inv X pins σ H1 { s1 with heap:=s1.heap.push { cls:=.type "tuple",data:=.seq [u1,u2].toArray } }:=I1.kept (t':=s1.toks) fun b o e=>Heap.get?_push_of_some _ e
 rw [hw]
 refine wpAny_bind (wpAny_pure ?_)
 show wpAny (model X.prog X.w) X.A (do rule "assign.swapped-stores";let items ← unpackItems (.ref s1.heap.objs.size) 2 none;assignInOrder [fun v=>bindName X.env y v,fun v=>bindName X.env x v] items.reverse;pure Flow.next) _ _ _
 refine wpAny_bind (wpAny_rule (wpAny_bind (unpackItems_tuple (items:=#[u1,u2]) (I.ok.hd hc) (IsTup.new s1.heap _) fun h' hx'=>?_)))
 have I3:=I2.kept (h':=h') (t':=s1.toks) fun b o e=>hx' b o (Nat.ne_of_lt (Heap.lt_size e)) e
 show wpAny _ _ (assignInOrder [fun v=>bindName X.env y v,fun v=>bindName X.env x v] [u2,u1] >>= fun _=>pure Flow.next) _ _ _
 refine wpAny_bind (assignInOrder_cons (wpAny_bindName (rH I3 hN hj (.inl hy) rw' (fun s2 I4=>?_) (.inr hy))))
 refine assignInOrder_cons (wpAny_bindName (rH I4 hN hi (.inl hx) rv (fun s3 I5=>assignInOrder_nil (wpAny_pure ?_)) (.inr hx)))
 rw [List.set_comm _ _ (Ne.symm hij)] at I5
 exact ⟨_,H1,I5,q1⟩
def TX (to ti te:TE) (tget:V->V->Hp->VK->Prop) (tip:TIp) (tset:JN):TS:=fun D σ H=>to σ H fun o H1=>ti σ H1 fun i H2=>tget o i H2 fun x H3=>te σ H3 fun y H4=>tip x y H4 fun z H5=>tset o i z H5 fun H6=>D.nx σ H6
def Xf (X:Cx) (t:V->V->Hp->VK->Prop):Prop:=
 ∀ (pins:List (Addr×Obj)) (s:Shared) (σ : St) (H:Hp) (o i:V) (ov iv:Value) (Q:VK),Inv X pins σ H s->RelV o ov->RelV i iv->t o i H Q ->
  wpAny (model X.prog X.w) X.A (getItem ov iv) (EP X pins σ Q) X.xe s
theorem Rt {o i e:Expr} {to ti te:TE} {tget:V->V->Hp->VK->Prop} {tip:TIp} {tset:JN} {op:Operator} {tpos:Pos} (ho:PE X o to) (hi:PE X i ti) (hg:Xf X tget) (he:PE X e te) (hp:PIp X op tip) (hs:TY X tset)
  (ha:∀ ov iv new,augStore i ov iv new=(do holding [new,ov,iv] (setItem ov iv new);release [new,ov,iv] [];pure .next):=by intros;rfl):PS X (.AugAssign (.Subscript o i tpos) op e pos) (TX to ti te tget tip tset):=by
 intro pins s σ H D I h
 refine wpAny_AugAssign_SubscriptAny (thn (ho pins s σ H _ I h) fun ov s1 ⟨x1,H1,I1,r1,q1⟩=>?_) ha
 refine thn (hi pins s1 σ H1 _ I1 q1) fun iv s2 ⟨x2,H2,I2,r2,q2⟩=>?_
 refine thn (hg pins s2 σ H2 x1 x2 ov iv _ I2 r1 r2 q2) fun old s3 ⟨x3,H3,I3,r3,q3⟩=>?_
 refine thn (he pins s3 σ H3 _ I3 q3) fun v s4 ⟨x4,H4,I4,r4,q4⟩=>?_
 refine thn (hp pins s4 σ H4 x3 x4 old v _ I4 r3 r4 q4) fun new s5 ⟨x5,H5,I5,r5,q5⟩=>?_
 exact thn (hs pins s5 σ H5 x1 x2 x5 ov iv new _ I5 r1 r2 r5 q5) fun _ s6 ⟨H6,I6,q6⟩=>⟨σ,H6,I6,q6⟩
def ipI (f:Int->Int->Int):TIp:=fun x y H Q=>∃ i j,x = .int i∧y = .int j∧Q (.int (f i j)) H
theorem zx:PIp X .Add (ipI fun i j=>i+j):=by
 intro pins s σ H x y v u Q I r1 r2 h
 obtain ⟨i,j,e1,e2,q⟩:=h
 subst e1;subst e2
 obtain ⟨t,rfl⟩:=r1
 obtain ⟨t',rfl⟩:=r2
 exact iadd_int ⟨.int _,H,I.tok _,⟨_,rfl⟩,q⟩
theorem zy:PIp X .Sub (ipI fun i j=>i - j):=by
 intro pins s σ H x y v u Q I r1 r2 h
 obtain ⟨i,j,e1,e2,q⟩:=h
 subst e1;subst e2
 obtain ⟨t,rfl⟩:=r1
 obtain ⟨t',rfl⟩:=r2
 exact isub_int ⟨.int _,H,I.tok _,⟨_,rfl⟩,q⟩
end
section
variable {X:Cx} {pos:Pos}
def Wz (c:TT) (tb:TS):TS:=fun D σ H=>∃ W:Nat->St->Hp->Prop,(∃ m,W m σ H) ∧ ∀ m σ H,W m σ H ->
 c σ H fun b H1=>if b=true then ∃ N:St->Hp->Prop,(∀ σ' H',N σ' H' -> ∃ m',m'<m∧W m' σ' H')∧tb { D with nx:=N,ct:=N,bk:=D.nx } σ H1 else D.nx σ H1
theorem Nx {c:Expr} {body:List Stmt} {tc:TT} {tb:TS} (hp:PassesOwn (model X.prog X.w) X.A X.env X.xe) (hc:PT X c tc) (hb:PSs X body tb):PS X (.While c body [] pos) (Wz tc tb):=by
 intro pins s σ H D I h
 obtain ⟨W,⟨m0,w0⟩,turn⟩:=h
 refine wpAny_While (codeAny_whileLoop (fun n s'=>∃ σ' H',Inv X pins σ' H' s'∧W n σ' H') ?_ m0 ⟨σ,H,I,w0⟩)
 rintro n s1 ⟨σ1,H1,I1,w1⟩
 refine wpAny_passesOwn hp (thn (hc pins s1 σ1 H1 _ I1 (turn n σ1 H1 w1)) fun b s2 ⟨H2,I2,q2⟩=>?_)
 cases b with
 | true=>
  obtain ⟨N,hN,q2⟩:=q2
  rw [if_pos rfl]
  refine wpAny_passesOwn hp (thn (hb pins s2 σ1 H2 _ I2 q2) fun f s3 q3=>?_)
  cases f with
  | next=>
   obtain ⟨σ3,H3,I3,n3⟩:=q3
   obtain ⟨m',hm,w3⟩:=hN σ3 H3 n3
   exact ⟨m',hm,σ3,H3,I3,w3⟩
  | cont=>
   obtain ⟨σ3,H3,I3,n3⟩:=q3
   obtain ⟨m',hm,w3⟩:=hN σ3 H3 n3
   exact ⟨m',hm,σ3,H3,I3,w3⟩
  | brk=>exact q3
  | ret v=>exact q3
 | false=>
  rw [if_neg Bool.false_ne_true]
  exact wpAny_execs_nil ⟨σ1,H2,I2,q2⟩
end
structure It where
 go:Nat->Hp->Prop
 yld:Nat->Hp->V->Hp->Prop
 stop:Nat->Hp->Prop
def rQ (X:Cx) (pins:List (Addr×Obj)) (H:Hp) (b:Addr):Prop:=
 H b=none∧b≠X.env.locals∧b ∉ X.fs∧(b∈X.ex∨X.s₀.heap.objs.size<=b)∧(∀ x c,X.env.cells.lookup x=some c->c≠b) ∧ ∀ p∈X.pn++pins,p.1≠b
theorem Inv.fpOk {X:Cx} {pins:List (Addr×Obj)} {σ : St} {H H':Hp} {s:Shared} {b:Addr} (I:Inv X pins σ H s) (hb:s.heap.objs.size<=b) (hn:H' b=none):rQ X pins H' b:=by
 refine ⟨hn,Nat.ne_of_gt (Nat.lt_of_lt_of_le I.lt hb),I.nofs hb,.inr (Nat.le_trans I.sz hb),fun x c e z=>?_,fun p hp z=>?_⟩
 ·obtain ⟨v,q⟩:=I.cell x c e
  exact absurd (Nat.lt_of_lt_of_le q.lt (by rw [z];exact hb)) (Nat.lt_irrefl _)
 ·exact absurd (Nat.lt_of_lt_of_le (Heap.lt_size (I.pin p hp).1) (by rw [z];exact hb)) (Nat.lt_irrefl _)
structure Turn (P:Program) (w:World) (K:PySem.W.Frag) (tg:Expr) (J:It) (fp:List Addr) (it:Addr) (tn:Nat->Heap->Prop):Prop where
 mem:it∈fp
 obj:∀ i h,tn i h -> ∀ b∈fp,∃ o,h.get? b=some o ∧ ∀ v,o.data ≠ .cell v
 keep:∀ i h h',tn i h->(∀ b∈fp,∀ o,h.get? b=some o->h'.get? b=some o)->tn i h'
 item:∀ (X:Cx),X.prog=P->X.w=w->X.K=K->X.calm=true -> ∀ (i:Nat) (pins:List (Addr×Obj)) (s:Shared) (σ : St) (H:Hp) (E:Value->Shared->Prop),Inv X pins σ H s->(∀ b∈fp,rQ X pins H b)->tn i s.heap->J.go i H ->
  wpAny (model P w) X.A (pyNext (.ref it)) (fun r s1=>∃ u,r=some u ∧
   wpAny (model P w) X.A (letOwnedTupleGo tg (.ref it) u) (fun _ s2=>∃ x H',Inv X pins σ H' s2∧RelV x u∧J.yld i H x H'∧tn (i+1) s2.heap ∧ ∀ b∈fp,H' b=none) E s1) E s
 done:∀ (X:Cx),X.prog=P->X.w=w->X.K=K->X.calm=true -> ∀ (i:Nat) (pins:List (Addr×Obj)) (s:Shared) (σ : St) (H:Hp) (E:Value->Shared->Prop),Inv X pins σ H s->(∀ b∈fp,rQ X pins H b)->tn i s.heap->J.stop i H ->
  wpAny (model P w) X.A (pyNext (.ref it)) (fun r s1=>r=none∧Inv X pins σ H s1) E s
 self:∀ (A:Around) (i:Nat) (s:Shared) (Q:Value->Shared->Prop) (E:Value->Shared->Prop),tn i s.heap->Q (.ref it) s->wpAny (model P w) A (pyIter (.ref it)) Q E s
abbrev TI:=St->Hp->(It->Hp->Prop)->Prop
def PIE (X:Cx) (pins:List (Addr×Obj)) (σ : St) (tg:Expr) (R:It->Hp->Prop) (itv:Value) (s2:Shared):Prop:=
 ∃ (it:Addr) (fp:List Addr) (tn:Nat->Heap->Prop) (J:It) (H':Hp),itv = .ref it∧Inv X pins σ H' s2∧Turn X.prog X.w X.K tg J fp it tn∧tn 0 s2.heap∧(∀ b∈fp,rQ X pins H' b)∧R J H'
def PI (X:Cx) (tg iter:Expr) (wi:TI):Prop:=
 ∀ (pins:List (Addr×Obj)) (s:Shared) (σ : St) (H:Hp) (R:It->Hp->Prop),Inv X pins σ H s->wi σ H R ->
  wpAny (model X.prog X.w) X.A (eval iter X.env) (fun v s1=>wpAny (model X.prog X.w) X.A (pyIter v) (PIE X pins σ tg R) X.xe s1) X.xe s
theorem LK {M:Model} {A:Around} {E:Value->Shared->Prop} {s:Shared} {tg:Expr} {it:Addr} {u:Value} {o:Obj} {n:String} {vs:Array Value} {Q:Unit->Shared->Prop} (ho:s.heap.get? it=some o) (hc:o.cls = .type n) (hd:o.data = .fields vs)
  (hn:["enumerate", "zip", "dict_itemiterator", "dict_reverseitemiterator", "odict_iterator", "itertools.zip_longest", "itertools.pairwise"].contains n=false) (hQ:Q () s):wpAny M A (letOwnedTupleGo tg (.ref it) u) Q E s:=by
 unfold letOwnedTupleGo
 cases tg <;> first
  | exact wpAny_pure hQ
  | (cases u <;> first
    | exact wpAny_pure hQ
    | (refine wpAny_bind (wpAny_load ho ?_)
       rw [hc,hd]
       show wpAny M A (if (["enumerate", "zip", "dict_itemiterator", "dict_reverseitemiterator", "odict_iterator", "itertools.zip_longest", "itertools.pairwise"].contains n&&vs[0]? == some (rawInt _))=true then _ else _) Q E s
       rw [if_neg (by intro h;rw [hn,Bool.false_and] at h;cases h)]
       exact wpAny_pure hQ))
def Itl (K:PySem.W.Frag) (a:Addr):It:=
 ⟨fun i H=>∃ xs x,SqL K H a xs∧xs[i]? = some x,fun i H x H'=>H'=H ∧ ∀ xs,SqL K H a xs->xs[i]? = some x,fun i H=>∃ xs,SqL K H a xs∧xs.length<=i⟩
def Itt (K:PySem.W.Frag) (a:Addr):It:=
 ⟨fun i H=>∃ xs x,SqT K H a xs∧xs[i]? = some x,fun i H x H'=>H'=H ∧ ∀ xs,SqT K H a xs->xs[i]? = some x,fun i H=>∃ xs,SqT K H a xs∧xs.length<=i⟩
def Itr (lo:Int) (n:Nat):It:=⟨fun i _=>i<n,fun i H x H'=>H'=H∧x = .int (lo+i),fun i _=>n<=i⟩
theorem JG {P:Program} {w:World} {K:PySem.W.Frag} {tg:Expr} (a it:Addr):Turn P w K tg (Itl K a) [it] it (fun i h=>h.IsListIter it a i) where
 mem:=by simp
 obj:=fun i h st b hb=>by
  have e:b=it:=by simpa using hb
  subst e
  obtain ⟨o,e,c,d⟩:=st
  exact ⟨o,e,fun v z=>by rw [d] at z;cases z⟩
 keep:=fun i h h' st k=>st.at fun o e=>k it (by simp) o e
 item:=by
  intro X hP hw hK hc i pins s σ H E I hf st hg
  subst hP hw hK
  obtain ⟨xs,x,hq,hx⟩:=hg
  obtain ⟨its,rv,p,hz⟩:=I.list hq
  obtain ⟨u,hu,ru⟩:=rv.get hx
  obtain ⟨f0,f1,f2,f3,f4,f5⟩:=hf it (by simp)
  refine wpAny_pyNext_list_item st p.isList (x:=u) (by simpa using hu) fun h' st' sb=>?_
  have I1:Inv X pins σ H { s with heap:=h' }:=I.turned (t':=s.toks) (fun b o hb e=>(sb.2 b hb).trans e) f0 f1 f3 f4 f5
  obtain ⟨o,e,c,d⟩:=id st'
  exact ⟨u,rfl,LK (s:={ s with heap:=h' }) e c d (by decide) ⟨x,H,I1,ru,⟨rfl,fun ys hy=>by rw [I.list_inj hy hq];exact hx⟩,st',fun b hb=>(hf b hb).1⟩⟩
 done:=by
  intro X hP hw hK hc i pins s σ H E I hf st hg
  subst hP hw hK
  obtain ⟨xs,hq,hx⟩:=hg
  obtain ⟨its,rv,p,hz⟩:=I.list hq
  obtain ⟨f0,f1,f2,f3,f4,f5⟩:=hf it (by simp)
  have hl:=rv.length
  exact wpAny_pyNext_list_end (I.ok.hd hc) st p.isList (by simp;omega) fun h' eb=>⟨rfl,I.turned (t':=s.toks) (fun b o hb e=>eb b o hb e) f0 f1 f3 f4 f5⟩
 self:=fun _ _ _ _ _ st h=>wpAny_pyIter_listiter st h
theorem FT {P:Program} {w:World} {K:PySem.W.Frag} {tg:Expr} (a it:Addr):Turn P w K tg (Itt K a) [it] it (fun i h=>h.IsTupleIter it a i) where
 mem:=by simp
 obj:=fun i h st b hb=>by
  have e:b=it:=by simpa using hb
  subst e
  obtain ⟨o,e,c,d⟩:=st
  exact ⟨o,e,fun v z=>by rw [d] at z;cases z⟩
 keep:=fun i h h' st k=>st.at fun o e=>k it (by simp) o e
 item:=by
  intro X hP hw hK hc i pins s σ H E I hf st hg
  subst hP hw hK
  obtain ⟨xs,x,hq,hx⟩:=hg
  obtain ⟨its,rv,p,hz⟩:=I.tuple hq
  obtain ⟨u,hu,ru⟩:=rv.get hx
  obtain ⟨f0,f1,f2,f3,f4,f5⟩:=hf it (by simp)
  refine wpAny_pyNext_tuple_item st (show s.heap.IsTuple a its.toArray from p) (x:=u) (by simpa using hu) fun h' st' sb=>?_
  have I1:Inv X pins σ H { s with heap:=h' }:=I.turned (t':=s.toks) (fun b o hb e=>(sb.2 b hb).trans e) f0 f1 f3 f4 f5
  obtain ⟨o,e,c,d⟩:=id st'
  exact ⟨u,rfl,LK (s:={ s with heap:=h' }) e c d (by decide) ⟨x,H,I1,ru,⟨rfl,fun ys hy=>by rw [I.tuple_inj hy hq];exact hx⟩,st',fun b hb=>(hf b hb).1⟩⟩
 done:=by
  intro X hP hw hK hc i pins s σ H E I hf st hg
  subst hP hw hK
  obtain ⟨xs,hq,hx⟩:=hg
  obtain ⟨its,rv,p,hz⟩:=I.tuple hq
  obtain ⟨f0,f1,f2,f3,f4,f5⟩:=hf it (by simp)
  have hl:=rv.length
  exact wpAny_pyNext_tuple_end (I.ok.hd hc) st (show s.heap.IsTuple a its.toArray from p) (by simp;omega) fun h' eb=>⟨rfl,I.turned (t':=s.toks) (fun b o hb e=>eb b o hb e) f0 f1 f3 f4 f5⟩
 self:=fun _ _ _ _ _ st h=>wpAny_pyIter_tupleiter st h
theorem FQ {P:Program} {w:World} {K:PySem.W.Frag} {tg:Expr} (it:Addr) (lo:Int) (n:Nat):Turn P w K tg (Itr lo n) [it] it (fun i h=>IsRangeIter h it (lo+(i:Nat)*1) ((n:Int) - (i:Nat)) 1) where
 mem:=by simp
 obj:=fun i h st b hb=>by
  have e:b=it:=by simpa using hb
  subst e
  exact ⟨_,st,fun v z=>by
   have z':Data.fields _=Data.cell v:=z
   cases z'⟩
 keep:=fun i h h' st k=>k it (by simp) _ st
 item:=by
  intro X hP hw hK hc i pins s σ H E I hf st hg
  subst hP hw hK
  obtain ⟨f0,f1,f2,f3,f4,f5⟩:=hf it (by simp)
  have W:=Walks.range (prog:=X.prog) (w:=X.w) (I.ok.hd hc) it lo 1 n
  refine W.item i s _ _ hg st fun v h' tk hv st' kk=>?_
  obtain ⟨t,rfl⟩:=hv
  have I1:Inv X pins σ H { s with heap:=h',toks:=tk }:=I.turned (fun b o hb e=>kk b o (by simpa using hb) e) f0 f1 f3 f4 f5
  refine ⟨_,rfl,LK (s:={ s with heap:=h',toks:=tk }) (n:= "range_iterator") st' rfl rfl (by decide) ⟨.int (lo+i),H,I1,⟨t,?_⟩,⟨rfl,rfl⟩,st',fun b hb=>(hf b hb).1⟩⟩
  rw [Int.mul_one]
 done:=by
  intro X hP hw hK hc i pins s σ H E I hf st hg
  subst hP hw hK
  obtain ⟨f0,f1,f2,f3,f4,f5⟩:=hf it (by simp)
  exact wpAny_pyNext_range_end (I.ok.hd hc) st (by have:n<=i:=hg;omega) fun h' eb=>⟨rfl,I.turned (t':=s.toks) (fun b o hb e=>eb b o hb e) f0 f1 f3 f4 f5⟩
 self:=fun _ _ _ _ _ st h=>wpAny_pyIter_rangeiter st h
end L2
namespace L2
open PySem PySem.Spec PyProof.Rows
section
variable {X:Cx} {tg:Expr}
theorem Dd {pins:List (Addr×Obj)} {σ : St} {H:Hp} {s:Shared} {R:It->Hp->Prop} {E:Value->Shared->Prop} {lo hi:Int} {t u v:Tok} {tk:Nat} (I:Inv X pins σ H s) (h1 : -(2 ^ 62)<=lo) (h2:lo<2 ^ 62) (h3 : -(2 ^ 62)<=hi) (h4:hi<2 ^ 62)
  (q:R (Itr lo (hi - lo).toNat) H):wpAny (model X.prog X.w) X.A (pyIter (.ref s.heap.objs.size)) (PIE X pins σ tg R) E { s with heap:=s.heap.push { cls:=.type "range",data:=.fields #[.int lo t,.int hi u,.int 1 v] },toks:=tk }:=by
 refine wpAny_pyIter_range (IsRange.new ..) (small_one h1 h2 h3 h4) ?_
 have I1:Inv X pins σ H { s with heap:=s.heap.push { cls:=.type "range",data:=.fields #[.int lo t,.int hi u,.int 1 v] },toks:=tk }:=I.kept fun b o e=>Heap.get?_push_of_some _ e
 refine ⟨(s.heap.push { cls:=.type "range",data:=.fields #[.int lo t,.int hi u,.int 1 v] }).objs.size,[(s.heap.push { cls:=.type "range",data:=.fields #[.int lo t,.int hi u,.int 1 v] }).objs.size],_,_,H,rfl,
  I1.kept (t':=tk) fun b o e=>Heap.get?_push_of_some _ e,FQ _ lo (hi - lo).toNat,?_,fun b hb=>?_,q⟩
 ·have e1:lo+((0:Nat):Int)*1=lo:=by simp
  have e2:(((hi - lo).toNat:Nat):Int) - ((0:Nat):Int)=Builtin.Range.rangeSize lo hi 1:=by rw [rangeSize_one];split <;> omega
  show IsRangeIter _ _ (lo+((0:Nat):Int)*1) ((((hi - lo).toNat:Nat):Int) - ((0:Nat):Int)) 1
  rw [e1,e2]
  exact Heap.get?_push_size _ rfl
 ·have e:b=(s.heap.push { cls:=.type "range",data:=.fields #[.int lo t,.int hi u,.int 1 v] }).objs.size:=by simpa using hb
  subst e
  exact I1.fpOk (Nat.le_refl _) (I1.hok.fresh (Nat.le_refl _))
def Xv (ta:TA):TI:=fun σ H R=>ta σ H fun vs H1=>∃ j:Int,vs=[.int j] ∧ -(2 ^ 62)<=j∧j<2 ^ 62∧R (Itr 0 j.toNat) H1
def Xw (ta:TA):TI:=fun σ H R=>ta σ H fun vs H1=>∃ i j:Int,vs=[.int i,.int j]∧(-(2 ^ 62)<=i∧i<2 ^ 62 ∧ -(2 ^ 62)<=j∧j<2 ^ 62)∧R (Itr i (j - i).toNat) H1
theorem Js {a:Expr} {ta:TA} {p pos:Pos} (hg:Gl X "range") (hm:X.mg "range" = none) (ha:PA X [a] ta) (hs:starEach [a] X.env=[(false,eval a X.env)]:=by rfl):PI X tg (.Call (.Name "range" p) [a] [] pos) (Xv ta):=by
 intro pins s σ H R I h
 refine Call_ (jx I hg hm boot_range (PyProof.Rows.callWith_type1 (thn (ha pos pins s σ H _ I h) fun us s1 ⟨vs,H1,I1,r1,q1⟩=>?_) hs rfl))
 obtain ⟨j,e,q1,q2,q⟩:=q1
 subst e
 cases r1 with
 | cons r rr=>
  cases rr
  obtain ⟨t,rfl⟩:=r
  exact call_range_1 (Dd I1 (by omega) (by omega) q1 q2 (by simpa using q))
theorem Jt {a b:Expr} {ta:TA} {p pos:Pos} (hg:Gl X "range") (hm:X.mg "range" = none) (ha:PA X [a,b] ta) (hs:starEach [a,b] X.env=[(false,eval a X.env),(false,eval b X.env)]:=by rfl) (hs2:starEach [b] X.env=[(false,eval b X.env)]:=by rfl) :
  PI X tg (.Call (.Name "range" p) [a,b] [] pos) (Xw ta):=by
 intro pins s σ H R I h
 refine Call_ (jx I hg hm boot_range (PyProof.Rows.callWith_type1 (thn (ha pos pins s σ H _ I h) fun us s1 ⟨vs,H1,I1,r1,q1⟩=>?_) (by rw [hs,hs2]) (by rw [hs2];rfl)))
 obtain ⟨i,j,e,⟨q1,q2,q3,q4⟩,q⟩:=q1
 subst e
 cases r1 with
 | cons r rr=>
  cases rr with
  | cons r' rr=>
   cases rr
   obtain ⟨t,rfl⟩:=r
   obtain ⟨t',rfl⟩:=r'
   exact call_range_2 (Dd I1 q1 q2 q3 q4 q)
def Zj (wi:TI) (g:TG) (tb:TS):TS:=fun D σ H=>wi σ H fun J H1=>∃ W:Nat->Nat->St->Hp->Prop,(∃ m,W 0 m σ H1) ∧ ∀ i m σ H,W i m σ H ->
 (J.stop i H∧D.nx σ H)∨(J.go i H ∧ ∃ N:St->Hp->Prop,(∀ σ' H',N σ' H' -> ∃ m',m'<m∧W (i+1) m' σ' H') ∧ ∀ x H',J.yld i H x H'->g x σ H' fun σ2 H2=>tb { D with nx:=N,ct:=N,bk:=D.nx } σ2 H2)
def wQ (fp:List Addr) (h:Heap):List (Addr×Obj):=fp.filterMap fun b=>(h.get? b).map fun o=>(b,o)
theorem nj {fp:List Addr} {h:Heap} {b:Addr} {o:Obj} (hb:b∈fp) (e:h.get? b=some o):(b,o)∈wQ fp h:=List.mem_filterMap.mpr ⟨b,hb,by rw [e];rfl⟩
theorem Jk {fp:List Addr} {h:Heap} {p:Addr×Obj} (hp:p∈wQ fp h):p.1∈fp∧h.get? p.1=some p.2:=by
 obtain ⟨b,hb,e⟩:=List.mem_filterMap.mp hp
 cases q:h.get? b with
 | none=>rw [q] at e;cases e
 | some o=>
  rw [q] at e
  have e':(b,o)=p:=Option.some.inj e
  subst e'
  exact ⟨hb,q⟩
theorem Inv.pinned {pins:List (Addr×Obj)} {σ : St} {H:Hp} {s:Shared} {fp:List Addr} (I:Inv X pins σ H s) (hf:∀ b∈fp,rQ X pins H b) (ho:∀ b∈fp,∃ o,s.heap.get? b=some o ∧ ∀ v,o.data ≠ .cell v):Inv X (pins++wQ fp s.heap) σ H s:=
 I.pins_of fun p hp=>(List.mem_append.mp hp).elim (fun z=>I.pin p (List.mem_append_right _ z)) fun z=>by
  obtain ⟨hb,e⟩:=Jk z
  obtain ⟨f0,f1,f2,_⟩:=hf p.1 hb
  obtain ⟨o,e',d⟩:=ho p.1 hb
  rw [e] at e';cases e'
  exact ⟨e,f0,f1,f2,d⟩
theorem Inv.unpinned {pins pl:List (Addr×Obj)} {σ : St} {H:Hp} {s:Shared} (I:Inv X (pins++pl) σ H s):Inv X pins σ H s:=I.pins_of fun p hp=>I.pin p (List.mem_append_right _ (List.mem_append_left _ hp))
theorem VR {iter:Expr} {body:List Stmt} {wi:TI} {g:TG} {tb:TS} {pos:Pos} (hp:PassesOwn (model X.prog X.w) X.A X.env X.xe) (hc:X.calm=true) (hi:PI X tg iter wi) (hg:PG X tg g) (hb:PSs X body tb)
  (hs:∀ x,foldedSetIterable iter X.env x=pure x:=by intro _;rfl):PS X (.For tg iter body [] pos) (Zj wi g tb):=by
 intro pins s σ H D I h
 refine wpAny_For (thn (hi pins s σ H _ I h) fun v s1 h1=>thn h1 fun itv s2 h2=>?_) hs
 obtain ⟨it,fp,tn,J,H2,e,I2,T,st2,f2,W,⟨m0,w0⟩,turn⟩:=h2
 subst e
 have stat:∀ {H':Hp},(∀ b∈fp,H' b=none) -> ∀ b∈fp,rQ X pins H' b:=fun hn b hb=>⟨hn b hb,(f2 b hb).2⟩
 refine codeAny_forLoop_any (fun n s'=>∃ i σ' H',Inv X pins σ' H' s'∧tn i s'.heap∧(∀ b∈fp,H' b=none)∧W i n σ' H') ?_ m0 ⟨0,σ,H2,I2,st2,fun b hb=>(f2 b hb).1,w0⟩
 rintro n s3 ⟨i,σ3,H3,I3,st3,fr3,w3⟩
 rcases turn i n σ3 H3 w3 with ⟨stop,qn⟩ | ⟨go,N,hN,step⟩
 ·refine wpAny_passesOwn hp (thn (T.done X rfl rfl rfl hc i pins s3 σ3 H3 X.xe I3 (stat fr3) st3 stop) fun r s4 ⟨hr,I4⟩=>?_)
  subst hr
  exact wpAny_execs_nil ⟨σ3,H3,I4,qn⟩
 ·refine wpAny_passesOwn hp (thn (T.item X rfl rfl rfl hc i pins s3 σ3 H3 X.xe I3 (stat fr3) st3 go) fun r s4 ⟨u,hr,h4⟩=>?_)
  subst hr
  refine wpAny_passesOwn hp (thn h4 fun _ s5 ⟨x,H5,I5,r5,y5,st5,fr5⟩=>?_)
  have I5':=I5.pinned (stat fr5) (T.obj _ _ st5)
  refine wpAny_passesOwn hp (thn (hg _ s5 σ3 H5 x u _ I5' r5 (step x H5 y5)) fun _ s6 ⟨σ6,H6,I6,q6⟩=>?_)
  refine wpAny_passesOwn hp (thn (hb _ s6 σ6 H6 _ I6 q6) fun f s7 q7=>?_)
  have again:∀ {σ7:St} {H7:Hp},Inv X (pins++wQ fp s5.heap) σ7 H7 s7->N σ7 H7 -> ∃ m,m<n ∧ ∃ i σ' H',Inv X pins σ' H' s7∧tn i s7.heap∧(∀ b∈fp,H' b=none)∧W i m σ' H':=fun {σ7 H7} I7 n7=>by
   obtain ⟨m',hm,w7⟩:=hN σ7 H7 n7
   refine ⟨m',hm,i+1,σ7,H7,I7.unpinned,T.keep _ _ _ st5 fun b hb o e=>(I7.pin (b,o) (List.mem_append_right _ (List.mem_append_right _ (nj hb e)))).1,fun b hb=>?_,w7⟩
   obtain ⟨o,e,d⟩:=T.obj _ _ st5 b hb
   exact (I7.pin (b,o) (List.mem_append_right _ (List.mem_append_right _ (nj hb e)))).2.1
  cases f with
  | next=>obtain ⟨σ7,H7,I7,n7⟩:=q7;exact again I7 n7
  | cont=>obtain ⟨σ7,H7,I7,n7⟩:=q7;exact again I7 n7
  | brk=>obtain ⟨σ7,H7,I7,q7⟩:=q7;exact ⟨σ7,H7,I7.unpinned,q7⟩
  | ret v=>obtain ⟨x7,σ7,H7,I7,r7,q7⟩:=q7;exact ⟨x7,σ7,H7,I7.unpinned,r7,q7⟩
end
end L2
namespace L2
open PySem PySem.Spec PyProof.Rows
abbrev R2:=V->V->Hp->VK->Prop
def OpR (X:Cx) (f:Value->Value->Sem Value) (r:R2):Prop:=
 ∀ (pins:List (Addr×Obj)) (s:Shared) (σ : St) (H:Hp) (x y:V) (v u:Value) (Q:VK),Inv X pins σ H s->RelV x v->RelV y u->r x y H Q ->
  wpAny (model X.prog X.w) X.A (f v u) (EP X pins σ Q) X.xe s
def UnR (X:Cx) (f:Value->Sem Value) (r:V->Hp->VK->Prop):Prop:=
 ∀ (pins:List (Addr×Obj)) (s:Shared) (σ : St) (H:Hp) (x:V) (v:Value) (Q:VK),Inv X pins σ H s->RelV x v->r x H Q ->
  wpAny (model X.prog X.w) X.A (f v) (EP X pins σ Q) X.xe s
def ir (X:Cx) (f:Value) (r:List V->Hp->VK->Prop):Prop:=
 ∀ (pins:List (Addr×Obj)) (s:Shared) (σ : St) (H:Hp) (xs:List V) (us:List Value) (Q:VK),Inv X pins σ H s->Vals xs us->r xs H Q ->
  wpAny (model X.prog X.w) X.A (call f us) (EP X pins σ Q) X.xe s
def YS (X:Cx) (r:V->Hp->(Bool->Hp->Prop)->Prop):Prop:=
 ∀ (pins:List (Addr×Obj)) (s:Shared) (σ : St) (H:Hp) (x:V) (v:Value) (Q:Bool->Hp->Prop),Inv X pins σ H s->RelV x v->r x H Q ->
  wpAny (model X.prog X.w) X.A (truthy v) (TP X pins σ Q) X.xe s
def tOp (r:R2) (ta tb:TE):TE:=fun σ H Q=>ta σ H fun x H1=>tb σ H1 fun y H2=>r x y H2 Q
def tUn (r:V->Hp->VK->Prop) (ta:TE):TE:=fun σ H Q=>ta σ H fun x H1=>r x H1 Q
def rI (C:Int->Int->Prop) (g:Int->Int->V):R2:=fun x y H Q=>∃ i j,x = .int i∧y = .int j∧C i j∧Q (g i j) H
def rI0 (g:Int->Int->V):R2:=fun x y H Q=>∃ i j,x = .int i∧y = .int j∧Q (g i j) H
def rU (g:Int->V):V->Hp->VK->Prop:=fun x H Q=>∃ i,x = .int i∧Q (g i) H
section
variable {X:Cx} {a b c:Expr} {ta tb tc:TE} {pos:Pos}
theorem Ud (ha:PE X a ta) (hb:PE X b tb) {pins:List (Addr×Obj)} {s:Shared} {σ : St} {H:Hp} {R:V->V->Hp->Prop} (I:Inv X pins σ H s)
  (h:ta σ H fun x H1=>tb σ H1 fun y H2=>R x y H2) {Q:Value->Shared->Prop} {f:Value->Value->Sem Value}
  (hf:∀ v u s2 x y H2,Inv X pins σ H2 s2->RelV x v->RelV y u->R x y H2->wpAny (model X.prog X.w) X.A (f v u) Q X.xe s2) :
  wpAny (model X.prog X.w) X.A (eval a X.env) (fun v s₁ => wpAny (model X.prog X.w) X.A (eval b X.env) (fun u s₂ => wpAny (model X.prog X.w) X.A (f v u) Q X.xe s₂) X.xe s₁) X.xe s:=by
 refine thn (ha pins s σ H _ I h) fun v s1 ⟨x,H1,I1,r1,q1⟩=>?_
 refine thn (hb pins s1 σ H1 _ I1 q1) fun u s2 ⟨y,H2,I2,r2,q2⟩=>?_
 exact hf v u s2 x y H2 I2 r1 r2 q2
theorem XQ {op:Operator} {r:R2} (ho:OpR X (binaryOp op) r) (ha:PE X a ta) (hb:PE X b tb):PE X (.BinOp a op b pos) (tOp r ta tb):=by
 intro pins s σ H Q I h
 exact wpAny_BinOp (Ud ha hb I h fun v u s2 x y H2 I2 rx ry q=>ho pins s2 σ H2 x y v u Q I2 rx ry q)
theorem XS {op:UnaryOp} {r:V->Hp->VK->Prop} (ho:UnR X (unaryOp op) r) (ha:PE X a ta):PE X (.UnaryOp op a pos) (tUn r ta):=by
 intro pins s σ H Q I h
 exact UnaryOp_ (thn (ha pins s σ H _ I h) fun v s1 ⟨x,H1,I1,r1,q1⟩=>ho pins s1 σ H1 x v Q I1 r1 q1)
theorem mQ {op:Operator} {r:R2} (ho:OpR X (inplaceOp op) r) {pins:List (Addr×Obj)} {s:Shared} {σ : St} {H:Hp} {x y:V} {v u:Value} {Q:VK} (I:Inv X pins σ H s)
  (rx:RelV x v) (ry:RelV y u) (q:r x y H Q):wpAny (model X.prog X.w) X.A (inplaceOp op v u) (EP X pins σ Q) X.xe s:=ho pins s σ H x y v u Q I rx ry q
theorem opI {f:Value->Value->Sem Value} {C:Int->Int->Prop} {g:Int->Int->Int}
  (rule:∀ (i j:Int) (t u:Tok) (s:Shared) (Q:Value->Shared->Prop) (E:Value->Shared->Prop),C i j->Q (.int (g i j) s.toks) { s with toks:=s.toks+1 }->wpAny (model X.prog X.w) X.A (f (.int i t) (.int j u)) Q E s) :
  OpR X f (rI C fun i j=>.int (g i j)):=by
 intro pins s σ H x y v u Q I rx ry h
 obtain ⟨i,j,rfl,rfl,hc,q⟩:=h
 obtain ⟨t,rfl⟩:=rx
 obtain ⟨t',rfl⟩:=ry
 exact rule i j t t' s _ _ hc ⟨.int (g i j),H,I.tok _,⟨_,rfl⟩,q⟩
theorem XH {f:Value->Value->Sem Value} {g:Int->Int->Int}
  (rule:∀ (i j:Int) (t u:Tok) (s:Shared) (Q:Value->Shared->Prop) (E:Value->Shared->Prop),Q (.int (g i j) s.toks) { s with toks:=s.toks+1 }->wpAny (model X.prog X.w) X.A (f (.int i t) (.int j u)) Q E s) :
  OpR X f (rI0 fun i j=>.int (g i j)):=by
 intro pins s σ H x y v u Q I rx ry h
 obtain ⟨i,j,rfl,rfl,q⟩:=h
 obtain ⟨t,rfl⟩:=rx
 obtain ⟨t',rfl⟩:=ry
 exact rule i j t t' s _ _ ⟨.int (g i j),H,I.tok _,⟨_,rfl⟩,q⟩
theorem Rc {f:Value->Value->Sem Value} {g:Int->Int->Bool}
  (rule:∀ (i j:Int) (t u:Tok) (s:Shared) (Q:Value->Shared->Prop) (E:Value->Shared->Prop),Q (.bool (g i j)) s->wpAny (model X.prog X.w) X.A (f (.int i t) (.int j u)) Q E s) :
  OpR X f (rI0 fun i j=>.bl (g i j)):=by
 intro pins s σ H x y v u Q I rx ry h
 obtain ⟨i,j,rfl,rfl,q⟩:=h
 obtain ⟨t,rfl⟩:=rx
 obtain ⟨t',rfl⟩:=ry
 exact rule i j t t' s _ _ ⟨.bl (g i j),H,I,rfl,q⟩
def Xa (i j:Int):Prop:=0<=j∧j<=1000000∧i.natAbs<2 ^ 64
def WY (i j:Int):Prop:=(-(2 ^ 64)<i∧i<2 ^ 64)∨(-(2 ^ 64)<j∧j<2 ^ 64)
theorem WY.ok {i j:Int} (h:WY i j):IntMulOk i j:=by
 rcases h with ⟨h1,h2⟩ | ⟨h1,h2⟩
 ·exact .of_left (intBits_le_64 h1 h2)
 ·exact .of_right (intBits_le_64 h1 h2)
theorem Vu:OpR X (binaryOp .Add) (rI0 fun i j=>.int (i+j)):=XH fun _ _ _ _ _ _ _ q=>add_int q
theorem nA:OpR X (binaryOp .Sub) (rI0 fun i j=>.int (i - j)):=XH fun _ _ _ _ _ _ _ q=>sub_int q
theorem gG:OpR X (binaryOp .Mod) (rI (fun _ j=>j≠0) fun i j=>.int (i.fmod j)):=opI fun _ _ _ _ _ _ _ hc q=>mod_int' hc q
theorem wO:OpR X (binaryOp .Pow) (rI Xa fun i j=>.int (i ^ j.toNat)):=opI fun _ _ _ _ _ _ _ hc q=>pow_int_small hc.1 hc.2.1 hc.2.2 q
theorem unI {f:Value->Sem Value} {g:Int->Int}
  (rule:∀ (i:Int) (t:Tok) (s:Shared) (Q:Value->Shared->Prop) (E:Value->Shared->Prop),Q (.int (g i) s.toks) { s with toks:=s.toks+1 }->wpAny (model X.prog X.w) X.A (f (.int i t)) Q E s) :
  UnR X f (rU fun i=>.int (g i)):=by
 intro pins s σ H x v Q I rx h
 obtain ⟨i,rfl,q⟩:=h
 obtain ⟨t,rfl⟩:=rx
 exact rule i t s _ _ ⟨.int (g i),H,I.tok _,⟨_,rfl⟩,q⟩
theorem xP:UnR X (unaryOp .USub) (rU fun i=>.int (-i)):=unI fun _ _ _ _ _ q=>neg_int q
end
section
variable {X:Cx} {a b c:Expr} {ta tb tc:TE} {pos:Pos}
theorem Uq {pins:List (Addr×Obj)} {σ : St} {H:Hp} {s:Shared} {Q:VK} {k k':Bool} (I:Inv X pins σ H s) (q:Q (.bl k) H) (e:k=k'):EP X pins σ Q (.bool k') s:=by
 subst e
 exact ⟨.bl k,H,I,rfl,q⟩
theorem Hx:OpR X (compareOp .Lt) (rI0 fun i j=>.bl (decide (i<j))):=Rc fun _ _ _ _ _ _ _ q=>lt_int q
theorem Hw:OpR X (compareOp .LtE) (rI0 fun i j=>.bl (decide (i<=j))):=Rc fun _ _ _ _ _ _ _ q=>le_int q
theorem Tt:OpR X (compareOp .Gt) (rI0 fun i j=>.bl (decide (j<i))):=Rc fun _ _ _ _ _ _ _ q=>gt_int q
theorem XJ:OpR X (compareOp .GtE) (rI0 fun i j=>.bl (decide (j<=i))):=Rc fun _ _ _ _ _ _ _ q=>ge_int q
theorem Vw:OpR X (compareOp .Is) (fun x y H Q=>y = .non∧Q (.bl (decide (x = .non))) H):=by
 intro pins s σ H x y v u Q I rx ry h
 obtain ⟨rfl,q⟩:=h
 cases ry
 refine is_none_gen (Uq I q ?_)
 cases x <;> first
  | (cases rx;rfl)
  | (obtain ⟨t,rfl⟩:=rx;rfl)
theorem OpR.or {f:Value->Value->Sem Value} {r r':R2} (h:OpR X f r) (h':OpR X f r'):OpR X f (fun x y H Q=>r x y H Q∨r' x y H Q):=by
 intro pins s σ H x y v u Q I rx ry q
 rcases q with q | q
 ·exact h pins s σ H x y v u Q I rx ry q
 ·exact h' pins s σ H x y v u Q I rx ry q
theorem dI (b:Expr) {op:CmpOp} (h:op ≠ .In:=by decide) (h2:op ≠ .NotIn:=by decide):behindInMarks op b=false:=by
 have e1:(op==CmpOp.In)=false:=by cases op <;> first | rfl | exact absurd rfl h
 have e2:(op==CmpOp.NotIn)=false:=by cases op <;> first | rfl | exact absurd rfl h2
 cases b <;> simp [behindInMarks,e1,e2]
theorem Rk {op:CmpOp} {r:R2} (ho:OpR X (compareOp op) r) (ha:PE X a ta) (hb:PE X b tb) (hm:behindInMarks op b=false):PE X (.Compare a [op] [b] pos) (tOp r ta tb):=by
 intro pins s σ H Q I h
 exact wpAny_Compare1 (Ud ha hb I h fun v u s2 x y H2 I2 rx ry q=>ho pins s2 σ H2 x y v u Q I2 rx ry q) hm
def YJ (t:TE):TT:=fun σ H Q=>t σ H fun x H'=>∃ k,x = .bl k∧Q k H'
theorem Ry {op:CmpOp} {r:R2} (ho:OpR X (compareOp op) r) (ha:PE X a ta) (hb:PE X b tb) (hm:behindInMarks op b=false):PT X (.Compare a [op] [b] pos) (YJ (tOp r ta tb)):=by
 intro pins s σ H Q I h
 refine wpAny_isTrue_Compare1 (thn (ha pins s σ H _ I h) fun v s1 ⟨x,H1,I1,r1,q1⟩=>thn (hb pins s1 σ H1 _ I1 q1) fun u s2 ⟨y,H2,I2,r2,q2⟩=>
  thn (ho pins s2 σ H2 x y v u _ I2 r1 r2 q2) fun c s3 ⟨z,H3,I3,r3,k,e,q3⟩=>?_) hm
 subst e
 cases r3
 exact wpAny_truthy_bool ⟨H3,I3,q3⟩
def Ou (r r':R2) (ta tb tc:TE):TE:=fun σ H Q=>ta σ H fun x H1=>tb σ H1 fun y H2=>r x y H2 fun z H3=>∃ k,z = .bl k ∧
 (if k=true then tc σ H3 fun w' H4=>r' y w' H4 Q else Q (.bl false) H3)
theorem Ni {op op':CmpOp} {r r':R2} (ho:OpR X (compareOp op) r) (ho':OpR X (compareOp op') r') (ha:PE X a ta) (hb:PE X b tb) (hc:PE X c tc)
  (hm:lastMarks [op,op'] [b,c]=false:=by with_unfolding_all rfl):PE X (.Compare a [op,op'] [b,c] pos) (Ou r r' ta tb tc):=by
 intro pins s σ H Q I h
 refine Compare_chain (thn (ha pins s σ H _ I h) fun v s1 ⟨x,H1,I1,r1,q1⟩=>chain_link (thn (hb pins s1 σ H1 _ I1 q1) fun u s2 ⟨y,H2,I2,r2,q2⟩=>
  thn (ho pins s2 σ H2 x y v u _ I2 r1 r2 q2) fun d s3 ⟨z,H3,I3,r3,k,e,q3⟩=>?_)) hm
 subst e
 cases r3
 refine wpAny_truthy_bool ?_
 cases k with
 | false=>exact ite_ff ⟨.bl false,H3,I3,rfl,q3⟩
 | true=>exact ite_tt (chain_last (thn (hc pins s3 σ H3 _ I3 q3) fun w' s4 ⟨z',H4,I4,r4,q4⟩=>ho' pins s4 σ H4 y z' u w' Q I4 r2 r4 q4))
def Ua (K:PySem.W.Frag) (x:V) (H:Hp) (k:Bool):Prop:=
 match x with
 | .non=>k=false
 | .bl b=>k=b
 | .int i=>k=(i != 0)
 | .str y=>y.length<=sizeLine∧k=((y.length:Int) != 0)
 | .byt y=>y.size<=sizeLine∧k=((y.size:Int) != 0)
 | .ref p=>(∃ xs,SqL K H p xs∧k = !xs.isEmpty)∨(∃ xs,SqT K H p xs∧k = !xs.isEmpty) ∨ ∃ kvs,H p=some (.dK kvs)∧k = !kvs.isEmpty
 | _=>False
theorem Ep {κ : Type} {kvs:List (κ × V)} {vs:List (κ × Value)} (r:KV kvs vs):(!vs.isEmpty) = !kvs.isEmpty:=by
 cases r <;> rfl
theorem vL {xs:List V} {its:List Value} (r:Vals xs its):(!its.toArray.isEmpty) = !xs.isEmpty:=by
 cases r <;> simp
theorem oJ:(sizeLine:Nat)<2 ^ 63:=by rw [sizeLine_eq];decide
theorem WK:YS X (fun x H Q=>∃ k,Ua X.K x H k∧Q k H):=by
 intro pins s σ H x v Q I rx h
 obtain ⟨k,e,q⟩:=h
 have hl:=oJ
 have hs:sizeLine=16777216:=sizeLine_eq
 cases x with
 | non=>
  cases rx
  have e':k=false:=e
  subst e'
  exact truthy_none ⟨H,I,q⟩
 | bl b=>
  cases rx
  have e':k=b:=e
  subst e'
  exact wpAny_truthy_bool ⟨H,I,q⟩
 | int i=>
  obtain ⟨t,rfl⟩:=rx
  have e':k=(i != 0):=e
  subst e'
  exact PySem.P.truthy_int ⟨H,I,q⟩
 | str y=>
  obtain ⟨t,rfl⟩:=rx
  obtain ⟨hy,e'⟩:y.length<=sizeLine∧k=((y.length:Int) != 0):=e
  subst e'
  exact PySem.P.truthy_str (by omega) ⟨H,I.tok _,q⟩
 | byt y=>
  obtain ⟨t,rfl⟩:=rx
  obtain ⟨hy,e'⟩:y.size<=sizeLine∧k=((y.size:Int) != 0):=e
  subst e'
  exact PySem.W.truthy_bytes (by omega) ⟨H,I.tok _,q⟩
 | ref p=>
  cases rx
  have e':(∃ xs,SqL X.K H p xs∧k = !xs.isEmpty)∨(∃ xs,SqT X.K H p xs∧k = !xs.isEmpty) ∨ ∃ kvs,H p=some (.dK kvs)∧k = !kvs.isEmpty:=e
  rcases e' with ⟨xs,hx,e'⟩ | ⟨xs,hx,e'⟩ | ⟨kvs,hx,e'⟩
  ·subst e'
   obtain ⟨its,r,pl,hz⟩:=I.list hx
   have hlen:=r.length
   exact wpAny_truthy_list pl.isList (by simp only [List.size_toArray];omega) ⟨H,I.tok _,by rw [vL r];exact q⟩
  ·subst e'
   obtain ⟨its,r,pl,hz⟩:=I.tuple hx
   have hlen:=r.length
   exact truthy_tuple pl (by simp only [List.size_toArray];omega) ⟨H,I.tok _,by rw [vL r];exact q⟩
  ·subst e'
   obtain ⟨hz,hS,vs,r,m⟩:kvs.length<=sizeLine∧(p==sysModules)=false ∧ ∃ vs,KV kvs vs∧s.heap.DictOf (zG X.prog X.w) p vs:=I.hok p _ hx
   have hlen:kvs.length=vs.length:=Paired.length r
   exact wpAny_truthy_dict hS m (by omega) ⟨H,I.tok _,by rw [Ep r];exact q⟩
 | _=>exact (show False from e).elim
theorem Nz (ha:PE X a ta) (he:∀ whole,isTrue a X.env whole=(do let v ← whole;standAt a.pos;holding [v] (truthy v))) :
  PT X a (fun σ H Q=>ta σ H fun x H'=>∃ k,Ua X.K x H' k∧Q k H'):=by
 intro pins s σ H Q I h
 exact isTrue_plain (thn (ha pins s σ H _ I h) fun v s1 ⟨x,H1,I1,r1,q1⟩=>WK pins s1 σ H1 x v Q I1 r1 q1) (he _)
theorem Fo:OpR X (binaryOp .Add) (fun x y H Q=>∃ i j,x = .str i∧y = .str j∧i.length+j.length<=sizeLine∧Q (.str (i++j)) H):=by
 intro pins s σ H x y v u Q I rx ry h
 obtain ⟨i,j,rfl,rfl,hz,q⟩:=h
 obtain ⟨t,rfl⟩:=rx
 obtain ⟨t',rfl⟩:=ry
 exact add_str (fun t' tk=>⟨.str (i++j),H,I.tok _,⟨_,rfl⟩,q⟩) hz
theorem vals1 {x:V} {us:List Value} (r:Vals [x] us):∃ u,us=[u]∧RelV x u:=by
 cases r with
 | cons r1 r2=>cases r2;exact ⟨_,rfl,r1⟩
theorem vals2 {x y:V} {us:List Value} (r:Vals [x,y] us):∃ u w',us=[u,w']∧RelV x u∧RelV y w':=by
 cases r with
 | cons r1 r2=>
  cases r2 with
  | cons r3 r4=>cases r4;exact ⟨_,_,rfl,r1,r3⟩
theorem uY:ir X (.builtin "abs") (fun xs H Q=>∃ i,xs=[.int i]∧Q (.int (if i<0 then -i else i)) H):=by
 intro pins s σ H xs us Q I r h
 obtain ⟨i,rfl,q⟩:=h
 obtain ⟨u,rfl,t,rfl⟩:=vals1 r
 exact call_abs_int fun u tk=>⟨.int (if i<0 then -i else i),H,I.tok _,⟨_,rfl⟩,q⟩
theorem yp (hc:X.calm=true):ir X (.builtin "max") (fun xs H Q=>∃ i j,xs=[.int i,.int j]∧Q (.int (if j>i then j else i)) H):=by
 intro pins s σ H xs us Q I r h
 obtain ⟨i,j,rfl,q⟩:=h
 obtain ⟨u,w',rfl,⟨t,rfl⟩,⟨t',rfl⟩⟩:=vals2 r
 refine max_two_ints (I.ok.hd hc) fun h' tk k=>⟨_,H,I.kept k,?_,q⟩
 by_cases hj:j>i
 ·rw [if_pos hj,if_pos hj];exact ⟨_,rfl⟩
 ·rw [if_neg hj,if_neg hj];exact ⟨_,rfl⟩
theorem su (hc:X.calm=true):ir X (.builtin "min") (fun xs H Q=>∃ i j,xs=[.int i,.int j]∧Q (.int (if j<i then j else i)) H):=by
 intro pins s σ H xs us Q I r h
 obtain ⟨i,j,rfl,q⟩:=h
 obtain ⟨u,w',rfl,⟨t,rfl⟩,⟨t',rfl⟩⟩:=vals2 r
 refine min_two_ints (I.ok.hd hc) fun h' tk k=>⟨_,H,I.kept k,?_,q⟩
 by_cases hj:j<i
 ·rw [if_pos hj,if_pos hj];exact ⟨_,rfl⟩
 ·rw [if_neg hj,if_neg hj];exact ⟨_,rfl⟩
theorem yo:ir X (.type "int") (fun xs H Q=>(∃ i,xs=[.int i]∧Q (.int i) H) ∨ ∃ k,xs=[.bl k]∧Q (.int (if k then 1 else 0)) H):=by
 intro pins s σ H xs us Q I r h
 rcases h with ⟨i,rfl,q⟩ | ⟨k,rfl,q⟩
 ·obtain ⟨u,rfl,t,rfl⟩:=vals1 r
  exact call_int_int ⟨.int i,H,I,⟨_,rfl⟩,q⟩
 ·obtain ⟨u,rfl,r1⟩:=vals1 r
  cases r1
  exact call_int_bool ⟨.int (if k then 1 else 0),H,I.tok _,⟨_,rfl⟩,q⟩
end
end L2
namespace L2
open PySem PySem.Spec PyProof.Rows
structure ObjM (h:Heap) (x dx C:Addr) (mA:Str->Option Value):Prop where
 obj:h.get? x=some (PySem.W.instObj C dx)
 ns:h.Ns1 dx mA
 ne:dx≠x
theorem Ji {h:Heap} {dx:Addr} {mA:Str->Option Value} (n:h.Ns1 dx mA):∃ od,h.get? dx=some od ∧ ∀ name,PySem.W.lookIn name od=some (mA name):=by
 obtain ⟨o,es,ep,ho,hd,hk,_,hm⟩:=n
 refine ⟨o,ho,fun name=>?_⟩
 have e:=hm name
 unfold nsFind findBy at e
 rw [← Array.find?_toList] at e
 unfold PySem.W.lookIn
 rw [hd]
 dsimp only
 split
 ·rename_i y q
  rw [q] at e
  exact congrArg some e
 ·rename_i q
  rw [q] at e
  have a:es.toList.any (·.refKey)=false:=by
   rw [List.any_eq_false]
   intro y hy
   obtain ⟨z,t,hkey⟩:=hk y (Array.mem_toList_iff.mp hy)
   simp [DictEntry.refKey,hkey]
  have a':¬ es.toList.any (·.refKey)=true:=by rw [a];exact Bool.false_ne_true
  rw [if_neg a']
  exact congrArg some e
theorem ObjM.look {h:Heap} {x dx C:Addr} {mA:Str->Option Value} (I:ObjM h x dx C mA):∃ od,PySem.W.InstAt h x (PySem.W.instObj C dx) C (some od) ∧ ∀ name,PySem.W.lookIn name od=some (mA name):=
 let ⟨od,ho,hl⟩:=Ji I.ns
 ⟨od,⟨I.obj,rfl,rfl,ho⟩,hl⟩
section
variable {prog:Program} {w:World} {A:Around} {E:Value->Shared->Prop} {s:Shared} {K:PySem.W.Frag} {x dx C f:Addr} {mA:Str->Option Value} {name:Str} {v:Value}
end
section
variable {P:Program} {w:World} {H H':Hp} {h h':Heap} {a C dx:Addr} {fs fs':List (Str×V)}
theorem Qq (hok:HOk P w H h) (e:H a=some (.ins C dx fs)):∃ mA,ObjM h a dx C mA∧(∀ f,JM (fs.lookup f) (mA f))∧PySem.Within mA (fs.map (·.1))∧fs.length<=1000∧H dx=some (.own a):=by
 obtain ⟨d,z,ne,ob,mA,n,r,q⟩:=(show fK P w H h a (.ins C dx fs) from hok a _ e)
 exact ⟨mA,⟨ob,n,ne⟩,r,q,z,d⟩
end
structure Cls (K:PySem.W.Frag) (C:Addr):Prop where
 pg:PySem.W.plainGet K C Str.empty=true
 hd:PySem.W.hasDictIn K C=true
 po:PySem.W.plainOver K C=true
 sa:PySem.W.findIn K (.ref C) "__setattr__" = some (some (.builtin "object.__setattr__"))
theorem Cls.get {K:PySem.W.Frag} {C:Addr} (c:Cls K C) (f:Str):PySem.W.plainGet K C f=true:=c.pg
structure Con (K:PySem.W.Frag) (C:Addr) (f:Str) (v:V) (u:Value):Prop where
 at_:PySem.W.findIn K (.ref C) f=some (some u)
 rel:RelV v u
 get:PySem.W.specialIn K u "__get__" = some none
 cp:PySem.W.copiedNames.contains f=false
structure Meth (K:PySem.W.Frag) (C:Addr) (m:Str) (f:Addr):Prop where
 at_:PySem.W.findIn K (.ref C) m=some (some (.ref f))
 fn:PySem.W.isFn K (.ref f)=true
 kp:PySem.W.keepIn K (.ref f)=true
section
variable {X:Cx} {pins:List (Addr×Obj)} {σ : St} {H:Hp} {s:Shared} {a C dx:Addr} {fs:List (Str×V)} {f:Str} {v:V} {A:Around} {E:Value->Shared->Prop}
end
section
variable {X:Cx} {o e value:Expr} {f:Str} {pos pos' tpos:Pos} {ta tv:TE}
end
section
variable {X:Cx} {pins:List (Addr×Obj)} {σ : St} {H:Hp} {s:Shared} {A:Around} {E:Value->Shared->Prop} {Q:Value->Shared->Prop} {c:Value} {b:Bool}
inductive TyOf (K:PySem.W.Frag) (H:Hp):V->Value->Prop where
 | non:TyOf K H .non (.type "NoneType")
 | bl (x:Bool):TyOf K H (.bl x) (.type "bool")
 | int (i:Int):TyOf K H (.int i) (.type "int")
 | str (x:Str):TyOf K H (.str x) (.type "str")
 | flt (x:UInt64):TyOf K H (.flt x) (.type "float")
 | lst {a:Addr} {xs:List V} (e:H a=some (.lst xs)):TyOf K H (.ref a) (.type "list")
 | frz {a:Addr} {o:Obj} {xs:List V} (e:H a=some (.frz o (.lst xs))):TyOf K H (.ref a) (.type "list")
 | tup {a:Addr} {xs:List V} (e:H a=some (.tup xs)):TyOf K H (.ref a) (.type "tuple")
 | dK {a:Addr} {kvs:List (Key×V)} (e:H a=some (.dK kvs)):TyOf K H (.ref a) (.type "dict")
 | dT {a:Addr} {kvs:List (List Key×V)} (e:H a=some (.dT kvs)):TyOf K H (.ref a) (.type "dict")
 | ins {a C dx:Addr} {fs:List (Str×V)} (e:H a=some (.ins C dx fs)) (cl:Cls K C) (ha:PySem.W.findIn K (.ref C) "__class__" = some (some (.builtin "object.__class__")))
   (hn:PySem.W.specialIn K (.builtin "object.__class__") "__get__" = some (some (.builtin "getset_descriptor.__get__"))) (htk:PySem.W.takesIn K (.builtin "object.__class__")=some true)
   (hm:PySem.W.mroIn K C (.type "object")=some true):TyOf K H (.ref a) (.ref C)
theorem Jc {x:V} {u t:Value} (I:Inv X pins σ H s) (rx:RelV x u) (ty:TyOf X.K H x t) (e:PySem.W.kitOne X.K t c=some b) (h:∀ tk,Q (.bool b) { s with toks:=tk }) :
  wpAny (model X.prog X.w) A (call (.builtin "isinstance") [u,c]) Q E s:=by
 cases ty with
 | non=>cases (show u=Value.none from rx);exact PySem.W.kia_one PySem.W.kitx_none I.kIn True.intro e (fun z=>nomatch z) h
 | bl y=>cases (show u=Value.bool y from rx);exact PySem.W.kia_one PySem.W.kitx_bool I.kIn True.intro e (fun z=>nomatch z) h
 | int i=>obtain ⟨t,q⟩:=(show ∃ t,u=Value.int i t from rx);cases q;exact PySem.W.kia_one PySem.W.kitx_int I.kIn True.intro e (fun z=>nomatch z) h
 | str y=>obtain ⟨t,q⟩:=(show ∃ t,u=Value.str y t from rx);cases q;exact PySem.W.kia_one PySem.W.kitx_str I.kIn True.intro e (fun z=>nomatch z) h
 | flt y=>obtain ⟨t,q⟩:=(show ∃ t,u=Value.float y t from rx);cases q;exact PySem.W.kia_one PySem.W.kitx_float I.kIn True.intro e (fun z=>nomatch z) h
 | @lst a xs ea=>
  cases (show u=Value.ref a from rx)
  obtain ⟨_,_,n,_,h1⟩:=(show fK X.prog X.w H s.heap a (.lst xs) from I.hok a _ ea)
  exact PySem.W.kia_one PySem.W.kitx_list I.kIn ⟨_,h1,rfl⟩ e (fun z=>nomatch z) h
 | @frz a ob xs ea=>
  cases (show u=Value.ref a from rx)
  obtain ⟨_,_,_,n,_,h1⟩:=(show fK X.prog X.w H s.heap a (.frz ob (.lst xs)) from I.hok a _ ea)
  exact PySem.W.kia_one PySem.W.kitx_list I.kIn ⟨_,h1,rfl⟩ e (fun z=>nomatch z) h
 | @tup a xs ea=>
  cases (show u=Value.ref a from rx)
  obtain ⟨_,_,_,p⟩:=(show fK X.prog X.w H s.heap a (.tup xs) from I.hok a _ ea)
  obtain ⟨o,h1,h2,_⟩:=p
  exact PySem.W.kia_one PySem.W.kitx_tuple I.kIn ⟨o,h1,h2⟩ e (fun z=>nomatch z) h
 | @dK a kvs ea=>
  cases (show u=Value.ref a from rx)
  obtain ⟨_,_,vs,_,p⟩:=(show fK X.prog X.w H s.heap a (.dK kvs) from I.hok a _ ea)
  obtain ⟨o,es,ep,h1,h2,_⟩:=p
  exact PySem.W.kia_one PySem.W.kitx_dict I.kIn ⟨o,h1,h2.1⟩ e (fun z=>nomatch z) h
 | @dT a kvs ea=>
  cases (show u=Value.ref a from rx)
  obtain ⟨_,_,xs,_,o,es,ep,h1,h2,_⟩:=(show fK X.prog X.w H s.heap a (.dT kvs) from I.hok a _ ea)
  exact PySem.W.kia_one PySem.W.kitx_dict I.kIn ⟨o,h1,h2.1⟩ e (fun z=>nomatch z) h
 | @ins a C dx fs ea cl ha hn htk hm=>
  cases (show u=Value.ref a from rx)
  obtain ⟨mA,O,_⟩:=Qq I.hok ea
  obtain ⟨od,J,_⟩:=O.look
  exact PySem.W.kia_one (PySem.W.kitx_own (cl.get _) cl.hd ha hn htk hm) I.kIn J e (fun z=>nomatch z) h
end
end L2
namespace L2
open PySem PySem.Spec PyProof.Rows
structure Room (k:Nat) (A:Around):Prop where
 hd:A.handled=none
 dp:A.depth+3*k+5<recursionLimit
 un:A.units+16*k+200<cLine
theorem Room.mono {j k:Nat} {A:Around} (r:Room k A) (h:j<=k):Room j A:=⟨r.hd,by have:=r.dp;omega,by have:=r.un;omega⟩
theorem Room.deeper {k:Nat} {A:Around} (r:Room (k+1) A) (env:Env):Room k (A.deeper env):=
 ⟨r.hd,by have:=r.dp;show A.depth+1+3*k+5<_;omega,by have:=r.un;show A.units+3+16*k+200<_;omega⟩
theorem Room.in1 {k:Nat} {A:Around} (r:Room (k+1) A):Room k A.in1:=
 ⟨r.hd,by have:=r.dp;show A.depth+3*k+5<_;omega,by have:=r.un;show A.units+1+16*k+200<_;omega⟩
theorem Room.depth {k:Nat} {A:Around} (r:Room k A):A.depth<recursionLimit:=by have:=r.dp;omega
theorem Room.units {k:Nat} {A:Around} (r:Room k A):A.units+64<cLine:=by have:=r.un;omega
def Zn:TA:=fun _ H Q=>Q [] H
def YC (ta:TE) (tr:TA):TA:=fun σ H Q=>ta σ H fun x H1=>tr σ H1 fun xs H2=>Q (x :: xs) H2
section
variable {X:Cx} {e:Expr} {es:List Expr} {te:TE} {t:TA} {pos:Pos}
theorem Vy:PA X [] Zn:=fun _ _ _ _ H Q I h=>Calls.spliced_nil ⟨[],H,I,.nil,h⟩
theorem Ri (ha:PE X e te) (hr:PA X es t) (hs:starEach (e :: es) X.env=(false,eval e X.env) :: starEach es X.env:=by rfl):PA X (e :: es) (YC te t):=by
 intro pos pins s σ H Q I h
 rw [hs]
 show wpAny _ _ (spliced ((false,eval e X.env) :: backTo pos (starEach es X.env))) _ _ s
 refine Calls.spliced_cons (thn (ha pins s σ H _ I h) fun u s1 ⟨x,H1,I1,r1,q1⟩=>?_)
 exact thn (hr pos pins s1 σ H1 _ I1 q1) fun us s2 ⟨xs,H2,I2,r2,q2⟩=>⟨x :: xs,H2,I2,.cons r1 r2,q2⟩
def Zv (t:TA):TE:=fun σ H Q=>t σ H fun xs H1=>xs.length<=sizeLine ∧ ∀ p,H1 p=none->Q (.ref p) (upd H1 p (.tup xs))
def Zm (t:TA):TE:=fun σ H Q=>t σ H fun xs H1=>xs.length<=sizeLine ∧ ∀ p,H1 p=none->Q (.ref p) (upd H1 p (.lst xs))
theorem VL {x1} (h:PA X es t):PE X (.Tuple es x1 pos) (Zv t):=by
 intro pins s σ H Q I hq
 refine wpAny_Tuple_spliced (thn (h pos pins s σ H _ I hq) fun us s1 ⟨xs,H1,I1,r,z,q⟩=>⟨by rw [← r.length];exact z,?_⟩)
 have hf:H1 s1.heap.objs.size=none:=I1.hok.fresh (Nat.le_refl _)
 refine ⟨.ref s1.heap.objs.size,upd H1 s1.heap.objs.size (.tup xs),I1.laid (t':=s1.toks) (fun b u e=>Heap.get?_push_of_some _ e) (Nat.le_refl _) ?_,rfl,q _ hf⟩
 exact ⟨z,us,r,⟨_,Heap.get?_push_size _ rfl,rfl,_,rfl⟩⟩
theorem VF (h:PA X es t):PE X (.List es pos) (Zm t):=by
 intro pins s σ H Q I hq
 refine wpAny_List_spliced (thn (h pos pins s σ H _ I hq) fun us s1 ⟨xs,H1,I1,r,z,q⟩=>⟨by rw [← r.length];exact z,?_⟩)
 have hf:H1 s1.heap.objs.size=none:=I1.hok.fresh (Nat.le_refl _)
 refine ⟨.ref s1.heap.objs.size,upd H1 s1.heap.objs.size (.lst xs),I1.laid (t':=s1.toks) (fun b u e=>Heap.get?_push_of_some _ e) (Nat.le_refl _) ?_,rfl,q _ hf⟩
 exact ⟨z,us,0,r,Heap.get?_push_size _ rfl⟩
end
abbrev Sp:=List V->Hp->VK->XK->Prop
abbrev CXT:=List Env->Hp->Shared->XK->Value->Shared->Prop
structure Env0 (P:Program) (w:World) (K:PySem.W.Frag) (mg:Str->Option Value) (base:Heap) (A:Around) (outer:List Env) (s:Shared) (H:Hp):Prop where
 frames:A.frames=some outer
 mod:Mod K mg base
 bs:∀ b o,base.get? b=some o->s.heap.get? b=some o∧H b=none
 bsz:base.objs.size<=s.heap.objs.size
 funs:s.heap.FunFrames base outer
 frf:∀ b∈frs outer,H b=none
 hok:HOk P w H s.heap
 bare:AllBare s.gens
def CE (outer:List Env) (P:Program) (w:World) (H:Hp) (s:Shared) (Q:VK) (u:Value) (s':Shared):Prop:=
 ∃ v H',s'.os=s.os∧AllBare s'.gens∧Un (frs outer) [] H H' s.heap s'.heap∧HOk P w H' s'.heap∧RelV v u∧Q v H'
def CR (CX:CXT) (outer:List Env) (P:Program) (w:World) (H:Hp) (s:Shared) (Q:VK) (E:XK) (r:Result) (s':Shared):Prop:=
 match r with
 | .ok (.ret u)=>CE outer P w H s Q u s'
 | .ok _=>False
 | .error e=>CX outer H s E e s'
structure FnOk (P:Program) (w:World) (K:PySem.W.Frag) (mg:Str->Option Value) (base:Heap) (CX:CXT) (k:Nat) (f:Addr) (fd:FuncData) (ps:List Str) (sp:Sp):Prop where
 len:∀ vs H Q E,sp vs H Q E->vs.length=ps.length
 run:∀ (A:Around) (outer:List Env) (s:Shared) (H:Hp) (args:Args) (us:List Value) (vs:List V) (Q:VK) (E:XK),Room k A->Env0 P w K mg base A outer s H->BindsTo s fd args (ps.zip us)->Vals vs us->sp vs H Q E ->
  codeAny (model P w) A (.call (.ref f) args) (CR CX outer P w H s Q E) s
theorem FnOk.mono {P:Program} {w:World} {K:PySem.W.Frag} {mg:Str->Option Value} {base:Heap} {CX:CXT} {j k:Nat} {f:Addr} {fd:FuncData} {ps:List Str} {sp:Sp} (F:FnOk P w K mg base CX j f fd ps sp) (h:j<=k) :
  FnOk P w K mg base CX k f fd ps sp:=⟨F.len,fun A outer s H args us vs Q E hr=>F.run A outer s H args us vs Q E (hr.mono h)⟩
theorem FnOk.imp {P:Program} {w:World} {K:PySem.W.Frag} {mg:Str->Option Value} {base:Heap} {CX:CXT} {k:Nat} {f:Addr} {fd:FuncData} {ps:List Str} {sp sp':Sp} (F:FnOk P w K mg base CX k f fd ps sp)
  (h:∀ vs H Q E,sp' vs H Q E->sp vs H Q E):FnOk P w K mg base CX k f fd ps sp':=
 ⟨fun vs H Q E q=>F.len vs H Q E (h _ _ _ _ q),fun A outer s H args us vs Q E hr he hb hv hs=>F.run A outer s H args us vs Q E hr he hb hv (h _ _ _ _ hs)⟩
theorem Env0.in1 {P:Program} {w:World} {K:PySem.W.Frag} {mg:Str->Option Value} {base:Heap} {A:Around} {outer:List Env} {s:Shared} {H:Hp} (e:Env0 P w K mg base A outer s H) :
  Env0 P w K mg base A.in1 outer s H:=⟨e.frames,e.mod,e.bs,e.bsz,e.funs,e.frf,e.hok,e.bare⟩
section
variable {X:Cx} {pins:List (Addr×Obj)} {σ : St} {H:Hp} {s s':Shared}
theorem Inv.env0 (I:Inv X pins σ H s):Env0 X.prog X.w X.K X.mg X.base X.A X.stack s H:=
 ⟨I.ok.frames,I.ok.mod,I.bs,Nat.le_trans I.ok.bsz I.sz,I.stack,I.stkFree,I.hok,I.bare⟩
theorem Inv.after {Q:VK} {u:Value} (I:Inv X pins σ H s) (h:CE X.stack X.prog X.w H s Q u s'):EP X pins σ Q u s':=by
 obtain ⟨v,H',os,bare,un,hok,r,q⟩:=h
 obtain ⟨hh,g,d,t,os'⟩:=s'
 obtain rfl:os'=s.os:=os
 exact ⟨v,H',I.call (h':=hh) (g':=g) (d':=d) (t':=t) (ch:=[]) un hok bare (fun b z=>absurd z (by simp)),r,q⟩
end
def YB (sp:Sp) (dvs:List V) (E:XK) (t:TA):TE:=fun σ H Q=>t σ H fun vs H1=>sp (vs++dvs) H1 Q E
def Binds (K:PySem.W.Frag) (fd:FuncData) (ps:List Str) (ds:List Value):Prop:=
 ∀ (s:Shared) (us:List Value),K.In s.heap->(us++ds).length=ps.length->BindsTo s fd ⟨us,[]⟩ (ps.zip (us++ds))
theorem Binds.all {K:PySem.W.Frag} {fd:FuncData} {ps:List Str} (h:∀ us:List Value,us.length=ps.length->bindArgs fd ⟨us,[]⟩=pure (ps.zip us)):Binds K fd ps []:=fun s us _ hl=>by
 rw [List.append_nil] at hl ⊢
 exact .of_eq (h us hl)
def uQ (CX:CXT) (X:Cx) (E:XK):Prop:=∀ (pins:List (Addr×Obj)) (σ : St) (H:Hp) (s:Shared) (e:Value) (s':Shared),Inv X pins σ H s->CX X.stack H s E e s'->X.xe e s'
section
variable {X:Cx} {CX:CXT} {k:Nat} {f C:Addr} {fd:FuncData} {ps:List Str} {sp:Sp} {dvs:List V} {ds:List Value} {E:XK} {x m:Str} {p pos apos:Pos} {e o:Expr} {es:List Expr} {ta:TE} {t:TA}
theorem Wo {pins:List (Addr×Obj)} {σ : St} {H:Hp} {s:Shared} {Q:VK} {us:List Value} {vs:List V} (F:FnOk X.prog X.w X.K X.mg X.base CX k f fd ps sp) (hr:Room k X.A) (hb:Binds X.K fd ps ds) (hd:Vals dvs ds) (hx:uQ CX X E)
  (I:Inv X pins σ H s) (r:Vals vs us) (h:sp (vs++dvs) H Q E):wpAny (model X.prog X.w) X.A (call (.ref f) us) (EP X pins σ Q) X.xe s:=by
 have r2:Vals (vs++dvs) (us++ds):=r.append hd
 have hl:(us++ds).length=ps.length:=by rw [← r2.length];exact F.len _ _ _ _ h
 refine wpAny_call (codeAny_mono (F.run X.A X.stack s H ⟨us,[]⟩ (us++ds) (vs++dvs) Q E hr I.env0 (hb s us I.kIn hl) r2 h) fun r s' hq=>?_)
 cases r with
 | error e=>exact hx pins σ H s e s' I hq
 | ok fl=>
  cases fl with
  | ret u=>exact I.after hq
  | next=>exact False.elim hq
  | brk=>exact False.elim hq
  | cont=>exact False.elim hq
theorem Hy (F:FnOk X.prog X.w X.K X.mg X.base CX k f fd ps sp) (hr:Room k X.A) (hg:Gl X x) (hm:X.mg x=some (.ref f)) (hk:PySem.W.keepIn X.K (.ref f)=true) (hb:Binds X.K fd ps ds) (hd:Vals dvs ds) (hx:uQ CX X E)
  (ha:PA X (e :: es) t) (hdb:(x==("__debug__" : Str))=false:=by decide) (he:starEach (e :: es) X.env=(false,eval e X.env) :: starEach es X.env:=by rfl) (hpl:(backTo pos (starEach es X.env)).any (·.1)=false:=by rfl) :
  PE X (.Call (.Name x p) (e :: es) [] pos) (YB sp dvs E t):=by
 intro pins s σ H Q I h
 refine wpAny_Call_Name_kw (QM I hg hm ?_ hdb)
 refine PySem.W.callWith_K (h₀:=X.base) I.ok.mod.kin hk (thn (ha pos pins s σ H _ I h) fun us s1 ⟨vs,H1,I1,r,q⟩=>⟨I1.kIn,?_⟩) he hpl
 exact Wo F hr hb hd hx I1 r q
structure Mk (K:PySem.W.Frag) (C f:Addr):Prop where
 makes:PySem.W.makesIn K C=true
 init:PySem.W.findIn K (.ref C) "__init__" = some (some (.ref f))
 fn:PySem.W.isFn K (.ref f)=true
 kp:PySem.W.keepIn K (.ref C)=true
end
section
variable {X:Cx} {CX:CXT} {k:Nat} {f C:Addr} {fd:FuncData} {ps ks:List Str} {sp:Sp} {E:XK} {x m:Str} {p pos apos kpos:Pos} {e o:Expr} {es:List Expr} {kws:List Keyword} {te ta:TE} {t tk:TA} {nm:Option Str}
structure KBinds (K:PySem.W.Frag) (fd:FuncData) (ps ks:List Str) (g:List Value->List Value->List Value) (gV:List V->List V->List V):Prop where
 to:∀ (s:Shared) (us ws:List Value),K.In s.heap->(g us ws).length=ps.length->BindsTo s fd ⟨us,ks.zip ws⟩ (ps.zip (g us ws))
 rel:∀ {vs:List V} {us:List Value} {zs:List V} {ws:List Value},Vals vs us->Vals zs ws->Vals (gV vs zs) (g us ws)
variable {g:List Value->List Value->List Value} {gV:List V->List V->List V}
end
structure FnScope (N P:List Str) (sc:Scope):Prop where
 kind:sc.kind = .function
 co:sc.isCoroutine=false
 gen:sc.isGenerator=false
 nd:N.Nodup
 pre:N.take P.length=P
 par:∀ x∈P,sc.names.lookup x=some .local∨sc.names.lookup x=some .cell
 nofree:∀ y∈sc.names,y.2 ≠ .free
theorem yl {kindOf:Str->Option NameKind} {x:Str}:∀ {binds:List (Str×Value)} {m:Str->Option Value},(∀ v,(x,v) ∉ binds)->bindL kindOf binds m x=m x
 | [],_,_=>rfl
 | (n,v) :: r,m,h=>by
  unfold bindL
  rw [yl fun w hw=>h w (List.mem_cons_of_mem _ hw)]
  split
  ·have:x≠n:=by rintro rfl;exact h v List.mem_cons_self
   simp [this]
  ·rfl
theorem yh {kindOf:Str->Option NameKind} {x:Str}:∀ {binds:List (Str×Value)} {m:Str->Option Value},(∀ v,(x,v) ∉ binds)->bindC kindOf binds m x=m x
 | [],_,_=>rfl
 | (n,v) :: r,m,h=>by
  unfold bindC
  rw [yh fun w hw=>h w (List.mem_cons_of_mem _ hw)]
  split
  ·rfl
  ·have:x≠n:=by rintro rfl;exact h v List.mem_cons_self
   simp [this]
theorem yj {kindOf:Str->Option NameKind} {x:Str} {v:Value}:∀ {P:List Str} {vs:List Value} {i:Nat} {m:Str->Option Value},P.Nodup->P[i]? = some x->vs[i]? = some v->kindOf x=some .local ->
  bindL kindOf (P.zip vs) m x=some v
 | [],_,_,_,_,h,_,_=>by simp at h
 | _ :: _,[],_,_,_,_,h,_=>by simp at h
 | p :: P,w :: vs,0,m,nd,h1,h2,hk=>by
  simp at h1 h2;subst h1;subst h2
  show bindL kindOf ((p,w) :: P.zip vs) m p=_
  unfold bindL
  rw [yl fun v hv=>(List.nodup_cons.mp nd).1 (List.of_mem_zip hv).1,if_pos hk]
  simp
 | p :: P,w :: vs,i+1,m,nd,h1,h2,hk=>by
  show bindL kindOf ((p,w) :: P.zip vs) m x=_
  unfold bindL
  exact yj (i:=i) (List.nodup_cons.mp nd).2 (by simpa using h1) (by simpa using h2) hk
theorem yg {kindOf:Str->Option NameKind} {x:Str} {v:Value}:∀ {P:List Str} {vs:List Value} {i:Nat} {m:Str->Option Value},P.Nodup->P[i]? = some x->vs[i]? = some v->kindOf x≠some .local ->
  bindC kindOf (P.zip vs) m x=some v
 | [],_,_,_,_,h,_,_=>by simp at h
 | _ :: _,[],_,_,_,_,h,_=>by simp at h
 | p :: P,w :: vs,0,m,nd,h1,h2,hk=>by
  simp at h1 h2;subst h1;subst h2
  show bindC kindOf ((p,w) :: P.zip vs) m p=_
  unfold bindC
  rw [yh fun v hv=>(List.nodup_cons.mp nd).1 (List.of_mem_zip hv).1,if_neg hk]
  simp
 | p :: P,w :: vs,i+1,m,nd,h1,h2,hk=>by
  show bindC kindOf ((p,w) :: P.zip vs) m x=_
  unfold bindC
  exact yg (i:=i) (List.nodup_cons.mp nd).2 (by simpa using h1) (by simpa using h2) hk
def start (N:List Str) (vs:List V):St:=vs.map some++List.replicate (N.length - vs.length) none
def ul (CX:CXT) (P:Program) (w:World) (K:PySem.W.Frag) (mg:Str->Option Value) (base:Heap) (N:List Str) (qual:Str) (scope:Scope) (f:Addr) (cd:Value) (A:Around) (outer:List Env) (s:Shared) (H:Hp) (E:XK):Cx where
 prog:=P
 w:=w
 K:=K
 mg:=mg
 base:=base
 A:=A.deeper (envOfC qual scope s.heap.objs.size f cd)
 N:=N
 s₀:=s
 H₀:=H
 env:=envOfC qual scope s.heap.objs.size f cd
 outer:=outer
 stack:=envOfC qual scope s.heap.objs.size f cd :: outer
 ex:=[]
 calm:=true
 fn:=fun _=>true
 pn:=[]
 xe:=fun e s'=>wpAny (model P w) (A.deeper (envOfC qual scope s.heap.objs.size f cd)) (leaving (envOfC qual scope s.heap.objs.size f cd) e) (fun _ s''=>CX outer H s E e s'') (fun e' s''=>CX outer H s E e' s'') s'
theorem Az {sc:Scope} {n:Nat} {x:Str} (h:sc.names.lookup x=some .cell):∃ c,(cellsFrom n sc.names []).lookup x=some c:=by
 have q:=PySem.W.cellsFrom_some sc.names n [] (.inl h)
 exact Option.isSome_iff_exists.mp q
theorem Ja {CX:CXT} {P:Program} {w:World} {K:PySem.W.Frag} {mg:Str->Option Value} {base:Heap} {N ps:List Str} {qual:Str} {scope:Scope} {f:Addr} {cd:Value} {A:Around} {outer:List Env} {s s1:Shared} {H:Hp} {E:XK} {us:List Value} {vs:List V}
  (S:FnScope N ps scope) (hd:A.handled=none) (e0:Env0 P w K mg base A outer s H) (hl:vs.length=ps.length) (r:Vals vs us)
  (x:InCallC s s.heap.objs.size (bindL (envOfC qual scope s.heap.objs.size f cd).kindOf (ps.zip us) fun _=>none) (cellsFrom (s.heap.objs.size+1) scope.names []) (bindC (envOfC qual scope s.heap.objs.size f cd).kindOf (ps.zip us) fun _=>none) s1) :
  Inv (ul CX P w K mg base N qual scope f cd A outer s H E) [] (start N vs) H s1:=by
 have hpl:ps.length<=N.length:=by have:=congrArg List.length S.pre;rw [List.length_take] at this;omega
 obtain ⟨h1,tk,rfl,hk⟩:=x.done
 have noA:∀ b:Addr,b ∉ (ul CX P w K mg base N qual scope f cd A outer s H E).ex:=fun b z=>absurd (show b∈([]:List Addr) from z) (by simp)
 refine ⟨⟨e0.mod,S.kind,rfl,rfl,Nat.le_refl _,fun y z c h1 h2=>?_,fun y hy=>?_,fun y c _ h=>?_,fun _=>hd,Around.frames_deeper e0.frames,.inr ⟨rfl,rfl⟩,fun b z=>absurd z (noA b),e0.bs,e0.bsz,fun b _ _=>noA b,fun b z=>absurd z (noA b),e0.funs,e0.frf⟩,
  rfl,e0.bare,Un.kept hk,⟨_,x.toInCall.ns,fun i y v h1 h2 h3=>?_⟩,fun y c h=>⟨_,x.cell y c h⟩,e0.hok.fresh (Nat.le_refl _),fun y c h=>?_,fun p hp=>absurd (show p∈([]:List (Addr×Obj)) from hp) (by simp),e0.hok.kept hk,?_⟩
 ·exact name_of_addr x.apart (PySem.mem_of_lookup h1) (PySem.mem_of_lookup h2)
 ·have hy:scope.names.lookup y=some .cell∨scope.names.lookup y=some .free:=hy
  rcases hy with hy | hy
  ·exact Az hy
  ·exact absurd rfl (S.nofree _ (PySem.mem_of_lookup hy))
 ·exact Nat.le_of_lt (x.above y c (PySem.mem_of_lookup h))
 ·have hi:i<vs.length:=by
   unfold start at h2
   by_cases hi:i<vs.length
   ·exact hi
   ·rw [List.getElem?_append_right (by simpa using hi)] at h2
    rw [List.getElem?_replicate] at h2
    split at h2 <;> cases h2
  have ha:vs[i]? = some v:=by
   unfold start at h2
   rw [List.getElem?_append_left (by simpa using hi),List.getElem?_map] at h2
   cases e:vs[i]? with
   | none=>rw [e] at h2;cases h2
   | some a=>rw [e] at h2;cases h2;rfl
  obtain ⟨u,hu,rv⟩:=r.get ha
  have hp:ps[i]? = some y:=by
   rw [← S.pre,List.getElem?_take_of_lt (by omega)];exact h1
  have ndP:ps.Nodup:=by rw [← S.pre];exact S.nd.sublist (List.take_sublist _ _)
  refine ⟨u,rv,?_⟩
  rcases S.par y (List.mem_of_getElem? hp) with k | k
  ·exact .inl ⟨k,yj ndP hp hu k⟩
  ·obtain ⟨c,e⟩:=Az (n:=s.heap.objs.size+1) k
   refine .inr ⟨.inl k,c,e,?_⟩
   have q:=x.cell y c e
   rw [yg ndP hp hu (by show scope.names.lookup y≠_;rw [k];decide)] at q
   exact q
 ·exact e0.hok.fresh (Nat.le_of_lt (x.above y c (PySem.mem_of_lookup h)))
 ·unfold start
  show _=N.length
  rw [List.length_append,List.length_map,List.length_replicate]
  omega
theorem Ti {CX:CXT} {P:Program} {w:World} {K:PySem.W.Frag} {mg:Str->Option Value} {base:Heap} {k:Nat} {f:Addr} {name qual:Str} {params:Arguments} {body:List Stmt} {scope:Scope} {dV kV doc pm cdv ct oc:Value} {an od:Option Addr}
  {osl:Array (Option Value)} {N ps:List Str} {sp:Sp} (lk:K.lookup f=some ⟨oc,od,.func (PySem.W.fnOf name qual params body scope dV kV doc pm an cdv ct),osl⟩) (hcd:PySem.W.codeIn K cdv qual=true) (S:FnScope N ps scope)
  (len:∀ vs H Q E,sp vs H Q E->vs.length=ps.length)
  (hbody:∀ (A:Around) (outer:List Env) (s:Shared) (H:Hp) (vs:List V) (Q:VK) (E:XK),Room k (A.deeper (envOfC qual scope s.heap.objs.size f cdv))->sp vs H Q E ->
   ∃ t,PSs (ul CX P w K mg base N qual scope f cdv A outer s H E) body t∧t { nx:=fun _ H'=>Q .non H',rt:=Q } (start N vs) H) :
  FnOk P w K mg base CX (k+1) f (PySem.W.fnOf name qual params body scope dV kV doc pm an cdv ct) ps sp:=by
 refine ⟨len,fun A outer s H args us vs Q E hr e0 hb r hsp=>?_⟩
 have hl:=len _ _ _ _ hsp
 have KX:K.In s.heap:=e0.mod.kin.keeps fun b o e=>(e0.bs b o e).1
 have lim:s.heap.NoLimit:=e0.mod.nolimit.keeps fun b o e=>(e0.bs b o e).1
 have hkind:∀ y∈ps.zip us,scope.names.lookup y.1=some .local∨(scope.names.lookup y.1=some .cell∧((cellsFrom (s.heap.objs.size+1) scope.names []).lookup y.1).isSome=true):=fun ⟨n,v⟩ hy=>by
  rcases S.par n (List.of_mem_zip hy).1 with q | q
  ·exact .inl q
  ·exact .inr ⟨q,PySem.W.cellsFrom_some _ _ _ (.inl q)⟩
 refine codeAny_call_function hr.depth (KX _ _ lk) rfl S.co S.gen rfl (PySem.W.codeRec_of KX hcd) (hb _ _ _ _ ?_)
 refine wpAny_newFunctionEnv_cells S.kind hkind fun env he s1 x=>?_
 subst he
 refine ⟨lim.keeps x.toInCall.keep,codeAny_func ?_⟩
 obtain ⟨t,ht,hq⟩:=hbody A outer s H vs Q E (hr.deeper _) hsp
 have I:Inv (ul CX P w K mg base N qual scope f cdv A outer s H E) [] (start N vs) H s1:=Ja S hr.hd e0 hl r x
 refine wpAny_mono (ht [] s1 (start N vs) H _ I hq) (fun fl s' hs=>?_) fun e s' hs=>hs
 have fin:∀ {σ':St} {H':Hp} {v:V} {u:Value},Inv (ul CX P w K mg base N qual scope f cdv A outer s H E) [] σ' H' s'->RelV v u->Q v H'->CE outer P w H s Q u s':=
  fun {σ' H' v u} J rv q=>⟨v,H',J.os,J.bare,J.base,J.hok,rv,q⟩
 cases fl with
 | ret u=>
  obtain ⟨v,σ',H',J,rv,q⟩:=hs
  exact fin J rv q
 | next=>
  obtain ⟨σ',H',J,q⟩:=hs
  exact fin (v:=V.non) (u:=Value.none) J rfl q
 | brk=>
  obtain ⟨_,_,_,q⟩:=hs
  exact False.elim q
 | cont=>
  obtain ⟨_,_,_,q⟩:=hs
  exact False.elim q
end L2
namespace L2
open PySem PySem.Spec PyProof.Rows
section
variable {X:Cx} {x:Str} {p pos:Pos} {e:Expr} {es:List Expr} {t:TA} {id T:String} {r:List V->Hp->VK->Prop}
def tCB (r:List V->Hp->VK->Prop) (t:TA):TE:=fun σ H Q=>t σ H fun vs H1=>r vs H1 Q
theorem Nh (hc:ir X (.builtin id) r) (hg:Gl X x) (hm:X.mg x=none) (hv:bootBuiltins x=some (.builtin id)) (ha:PA X (e :: es) t) (hn:x ≠ "__name__":=by decide) (hdb:(x==("__debug__" : Str))=false:=by decide)
  (he:starEach (e :: es) X.env=(false,eval e X.env) :: starEach es X.env:=by rfl) (hpl:(backTo pos (starEach es X.env)).any (·.1)=false:=by rfl):PE X (.Call (.Name x p) (e :: es) [] pos) (tCB r t):=by
 intro pins s σ H Q I h
 refine wpAny_Call_Name_kw (jx I hg hm hv ?_ hn hdb)
 exact PyProof.Rows.callWith_builtin1 (thn (ha pos pins s σ H _ I h) fun us s1 ⟨vs,H1,I1,r1,q1⟩=>hc pins s1 σ H1 vs us Q I1 r1 q1) he hpl
theorem Jp (hc:ir X (.type T) r) (hg:Gl X x) (hm:X.mg x=none) (hv:bootBuiltins x=some (.type T)) (ha:PA X (e :: es) t) (hn:x ≠ "__name__":=by decide) (hdb:(x==("__debug__" : Str))=false:=by decide)
  (he:starEach (e :: es) X.env=(false,eval e X.env) :: starEach es X.env:=by rfl) (hpl:(backTo pos (starEach es X.env)).any (·.1)=false:=by rfl):PE X (.Call (.Name x p) (e :: es) [] pos) (tCB r t):=by
 intro pins s σ H Q I h
 refine wpAny_Call_Name_kw (jx I hg hm hv ?_ hn hdb)
 exact PyProof.Rows.callWith_type1 (thn (ha pos pins s σ H _ I h) fun us s1 ⟨vs,H1,I1,r1,q1⟩=>hc pins s1 σ H1 vs us Q I1 r1 q1) he hpl
end
end L2
namespace HT
open PySem PyProof.Rows
section
open PySem.SeqAt
open PySem.AutoSeq1 (wpAny_loadPart')
open PySem.MeetsSeq PySem.MeetsSeq2 PySem.MeetsSeq3
end
section
variable {prog:Program} {w:World} {A:Around} {E:Value->Shared->Prop} {s:Shared}
theorem Qa {t b:Addr} {vs ws:List Value} {Q:Value->Shared->Prop} (ht:IsTup s.heap t vs.toArray) (hb:IsTup s.heap b ws.toArray) (hv:vs≠[])
  (h1:ws=[]->Q (.ref t) s) (h2:ws≠[]->Q (.ref s.heap.objs.size) { s with heap:=s.heap.push { cls:=.type "tuple",data:=.seq (vs++ws).toArray } })
  (hsz:vs.length+ws.length<=sizeLine):wpAny (model prog w) A (binaryOp .Add (.ref t) (.ref b)) Q E s:=by
 obtain ⟨⟨cls,dd,data,sl⟩,ho,hc,n,hd⟩:=id ht
 obtain ⟨⟨cls2,dd2,data2,sl2⟩,ho2,hc2,n2,hd2⟩:=id hb
 simp only at hc hd hc2 hd2
 subst hc hd hc2 hd2
 have e:vs.toArray++ws.toArray=(vs++ws).toArray:=by simp
 by_cases hw:ws=[]
 ·exact concat_meets ⟨_,ho,rfl⟩ ⟨_,ho2,rfl⟩ noFill_tuple_add seq_tuple_add PySem.F.slot_tuple_add PySem.F.entry_tuple_add (PySem.F.args_tuple_add_2 _ _)
   (tuple_addW1 t b vs.toArray ws.toArray n n2 dd dd2 sl sl2 (by simpa using hv) (by simp [hw])) ⟨ho,ho2,h1 hw⟩
 ·refine concat_meets ⟨_,ho,rfl⟩ ⟨_,ho2,rfl⟩ noFill_tuple_add seq_tuple_add PySem.F.slot_tuple_add PySem.F.entry_tuple_add (PySem.F.args_tuple_add_2 _ _)
   (tuple_addW2 t b vs.toArray ws.toArray n n2 dd dd2 sl sl2 (by simpa using hv) (by simpa using hw) (by rw [List.size_toArray,List.size_toArray];exact hsz)) ⟨ho,ho2,?_⟩
  rw [e]
  exact h2 hw
def sIx (n d:Nat):Option Int->Nat
 | none=>d
 | some v=>if v<0 then (v+(n:Int)).toNat else min v.toNat n
theorem Di (n d:Nat):sIx n d none=d:=rfl
theorem uK (n d k:Nat):sIx n d (some (k:Int))=min k n:=by
 show (if (k:Int)<0 then ((k:Int)+(n:Int)).toNat else min (k:Int).toNat n)=min k n
 rw [if_neg (by omega),Int.toNat_natCast]
theorem Wr (n d:Nat) (hd:d<=n) (o:Option Int):sIx n d o<=n:=by
 cases o with
 | none=>exact hd
 | some v=>
  show (if v<0 then (v+(n:Int)).toNat else min v.toNat n)<=n
  by_cases hv:v<0
  ·rw [if_pos hv];omega
  ·rw [if_neg hv];exact Nat.min_le_right _ _
theorem Gh (v:Int) (n d:Nat):(if v<0 then max (v+(n:Int)) 0 else min v (n:Int))=((sIx n d (some v):Nat):Int):=by
 show (if v<0 then max (v+(n:Int)) 0 else min v (n:Int))=(((if v<0 then (v+(n:Int)).toNat else min v.toNat n):Nat):Int)
 by_cases hv:v<0
 ·simp only [if_pos hv];omega
 ·simp only [if_neg hv];omega
theorem Dz (lo hi:Option Int) (n:Nat):Builtin.Slice.sliceAdjust lo hi 1 (n:Int)=(((sIx n 0 lo:Nat):Int),((sIx n n hi:Nat):Int)):=by
 have h1:¬ ((1:Int)<0):=by omega
 unfold Builtin.Slice.sliceAdjust
 simp only [h1,if_false]
 refine Prod.ext ?_ ?_
 ·cases lo with
  | none=>rfl
  | some v=>exact Gh v n 0
 ·cases hi with
  | none=>rfl
  | some v=>exact Gh v n n
theorem Fp (i j:Nat):Builtin.Slice.slicePlaces (i:Int) (j:Int) 1=j - i:=by
 unfold Builtin.Slice.slicePlaces
 have h1:(1:Int)>0:=by omega
 simp only [h1,if_true,Int.ediv_one]
 split <;> omega
theorem xF {v:Value} {o:Option Int} {Q:Option Int->Shared->Prop} (p:IsPart v o) (h:Q o s):wpAny (model prog w) A (Builtin.Slice.slicePartIndex v) Q E s:=by
 cases p with
 | none=>exact slicePart_none h
 | int i t=>exact slicePart_int h
theorem mH {sl:Addr} {vl vu:Value} {lo hi:Option Int} {n:Nat} {Q:Int×Int×Nat->Shared->Prop} (hs:s.heap.IsSliceOf sl vl vu .none) (pl:IsPart vl lo) (pu:IsPart vu hi)
  (h:Q (((sIx n 0 lo:Nat):Int),1,sIx n n hi - sIx n 0 lo) s):wpAny (model prog w) A (Builtin.Slice.sliceApplied (.ref sl) (pure (n:Int))) Q E s:=by
 obtain ⟨os,hos,hcs,hds⟩:=id hs
 unfold Builtin.Slice.sliceApplied Builtin.Slice.sliceFields
 refine wpAny_bind (wpAny_bind (wpAny_field hos hds (x:=vl) rfl (wpAny_bind (wpAny_field hos hds (x:=vu) rfl (wpAny_bind (wpAny_field hos hds (x:=.none) rfl (wpAny_pure ?_)))))))
 refine wpAny_bind (slicePart_none ?_)
 show wpAny _ _ (if ((1:Int)==0)=true then _ else _) _ _ s
 rw [if_neg (by decide)]
 refine wpAny_bind (xF pl (wpAny_bind (xF pu (wpAny_bind (wpAny_pure ?_)))))
 show wpAny _ _ (match Builtin.Slice.sliceAdjust lo hi 1 (n:Int) with | (lo,hi)=>pure (lo,(1:Int),Builtin.Slice.slicePlaces lo hi 1)) _ _ s
 rw [Dz lo hi n]
 show wpAny _ _ (pure (((sIx n 0 lo:Nat):Int),(1:Int),Builtin.Slice.slicePlaces ((sIx n 0 lo:Nat):Int) ((sIx n n hi:Nat):Int) 1)) _ _ s
 rw [Fp]
 exact wpAny_pure h
theorem Nr (xs:Array Value) (i k:Nat):((List.range k).filterMap fun (m:Nat)=>xs[((i:Int)+(m:Int)*1).toNat]?).toArray=((xs.toList.drop i).take k).toArray:=by
 have e:(fun (m:Nat)=>xs[((i:Int)+(m:Int)*1).toNat]?)=fun m=>xs[i+m]?:=by
  funext m
  have:((i:Int)+(m:Int)*1).toNat=i+m:=by omega
  rw [this]
 rw [e]
 have:=pick_run xs i k
 rw [List.filterMap_map] at this
 have e2:((fun x=>xs[x]?) ∘ fun x=>i+x)=fun m=>xs[i+m]?:=rfl
 rw [e2] at this
 rw [this]
theorem qM {t sl:Addr} {items:Array Value} {vl vu:Value} {lo hi:Option Int} {Q:Value->Shared->Prop} (ht:IsTup s.heap t items) (hs:s.heap.IsSliceOf sl vl vu .none) (pl:IsPart vl lo) (pu:IsPart vu hi)
  (hw:¬ (sIx items.size 0 lo=0∧sIx items.size items.size hi=items.size))
  (h:Q (.ref s.heap.objs.size) { s with heap:=s.heap.push { cls:=.type "tuple",data:=.seq ((items.toList.drop (sIx items.size 0 lo)).take (sIx items.size items.size hi - sIx items.size 0 lo)).toArray } })
  (hsz:items.size<=sizeLine):wpAny (model prog w) A (getItem (.ref t) (.ref sl)) Q E s:=by
 have htake:sizeOk (.seq ((items.toList.drop (sIx items.size 0 lo)).take (sIx items.size items.size hi - sIx items.size 0 lo)).toArray):=by
  show ((items.toList.drop (sIx items.size 0 lo)).take (sIx items.size items.size hi - sIx items.size 0 lo)).toArray.size<=sizeLine
  rw [List.size_toArray,List.length_take,List.length_drop,Array.length_toList]
  omega
 have hj:sIx items.size items.size hi<=items.size:=Wr _ _ (Nat.le_refl _) hi
 obtain ⟨os,hos,hcs,hds⟩:=id hs
 have hTs:s.TypeIs (.ref sl) "slice":=⟨os,hos,hcs⟩
 unfold getItem
 try with_reducible refine wpAny_holding ?_
 first | refine wpAny_bind (wpAny_pure ?_) | skip
 refine wpAny_bind (wpAny_sequenceKey ht.typeIs (by decide) ?_)
 refine wpAny_bind (wpAny_callSpecial?_slot (name:=Str.ofString "__getitem__") ht.typeIs PyProof.Rows.slot_tuple_getitem
  (wpAny_call_entry PyProof.Rows.slot_tuple_getitem ht.typeIs entry_tuple_getitem ?_ (args_tuple_getitem _ _)))
 show wpAny _ _ (Builtin.Tuple.tupleItemsOf (.ref t) >>= _) _ _ s
 refine wpAny_bind (tupleItemsOf_ ht ?_)
 refine wpAny_bind (wpAny_typeOf hTs ?_)
 rw [if_pos (by decide)]
 refine wpAny_bind (mH hs pl pu ?_)
 have hno:¬ ((((sIx items.size 0 lo:Nat):Int)==0&&(1:Int)==1&&(sIx items.size items.size hi - sIx items.size 0 lo)==items.size)=true):=by
  intro q
  rw [Bool.and_eq_true,Bool.and_eq_true] at q
  have q1:((sIx items.size 0 lo:Nat):Int)=0:=eq_of_beq q.1.1
  have q2:sIx items.size items.size hi - sIx items.size 0 lo=items.size:=eq_of_beq q.2
  exact hw ⟨by omega,by omega⟩
 show wpAny _ _ (if (((sIx items.size 0 lo:Nat):Int)==0&&(1:Int)==1&&(sIx items.size items.size hi - sIx items.size 0 lo)==items.size)=true then _ else _) _ _ s
 rw [if_neg hno,Nr]
 first
  | exact wpAny_bind (m:=Builtin.Tuple.tupleExact _) (wpAny_newObj_type (wpAny_pure ⟨_,rfl,wpAny_pure h⟩) htake)
  | exact wpAny_bind (m:=Builtin.Tuple.tupleExact _) (wpAny_newObj_type (wpAny_bind (wpAny_pure (wpAny_pure ⟨_,rfl,wpAny_pure h⟩))) htake)
  | exact wpAny_bind (wpAny_bind (m:=Builtin.Tuple.tupleExact _) (wpAny_newObj_type (wpAny_pure (wpAny_pure ⟨_,rfl,wpAny_pure h⟩)) htake))
  | exact wpAny_bind (wpAny_bind (m:=Builtin.Tuple.tupleExact _) (wpAny_newObj_type (wpAny_pure ⟨_,rfl,wpAny_pure h⟩) htake))
end
end HT
namespace L2
open PySem PySem.Spec PyProof.Rows
abbrev TO:=St->Hp->(Option Int->Hp->Prop)->Prop
def PO (X:Cx) (e:Option Expr) (t:TO):Prop:=
 ∀ (pins:List (Addr×Obj)) (s:Shared) (σ : St) (H:Hp) (Q:Option Int->Hp->Prop),Inv X pins σ H s->t σ H Q ->
  wpAny (model X.prog X.w) X.A (evalPart e X.env) (fun u s'=>∃ o H',Inv X pins σ H' s'∧IsPart u o∧Q o H') X.xe s
def Sg:TO:=fun _ H Q=>Q none H
def YH (t:TE):TO:=fun σ H Q=>t σ H fun x H1=>∃ i,x = .int i∧Q (some i) H1
theorem intsAre_of {ns:List Int}:∀ {us:List Value},Vals (ns.map V.int) us->IntsAre us ns:=by
 induction ns with
 | nil=>intro us r;rw [List.map_nil] at r;cases r;exact .nil
 | cons n ns ih=>
  intro us r
  rw [List.map_cons] at r
  cases r with
  | cons r1 r2=>
   obtain ⟨t,e⟩:=r1
   subst e
   exact .cons n t (ih r2)
section
variable {X:Cx} {e:Expr} {te:TE} {lo hi:Option Expr} {tl th:TO} {pos p2:Pos}
theorem uI:PO X none Sg:=by
 intro pins s σ H Q I h
 rw [evalPart_none]
 exact wpAny_pure ⟨none,H,I,.none,h⟩
theorem uJ (h:PE X e te):PO X (some e) (YH te):=by
 intro pins s σ H Q I hw
 rw [evalPart_some]
 refine thn (h pins s σ H _ I hw) fun u s1 ⟨x,H1,I1,r1,q1⟩=>?_
 obtain ⟨i,rfl,q⟩:=q1
 obtain ⟨t,rfl⟩:=r1
 exact ⟨some i,H1,I1,.int i t,q⟩
def SlR (X:Cx) (r:V->Option Int->Option Int->Hp->VK->Prop):Prop:=
 ∀ (pins:List (Addr×Obj)) (s:Shared) (σ : St) (H:Hp) (x:V) (v vl vu:Value) (lo hi:Option Int) (sl:Addr) (Q:VK),Inv X pins σ H s->RelV x v->s.heap.IsSliceOf sl vl vu .none->IsPart vl lo->IsPart vu hi->r x lo hi H Q ->
  ∃ T id,typeLookup (.type T) "__getitem__" = pure (some (.builtin id))∧s.TypeIs v T∧wpAny (model X.prog X.w) X.A (getItem v (.ref sl)) (EP X pins σ Q) X.xe s
theorem SlR.or {r r':V->Option Int->Option Int->Hp->VK->Prop} (h:SlR X r) (h':SlR X r'):SlR X (fun x lo hi H Q=>r x lo hi H Q∨r' x lo hi H Q):=by
 intro pins s σ H x v vl vu lo hi sl Q I rx hs pl pu q
 rcases q with q | q
 ·exact h pins s σ H x v vl vu lo hi sl Q I rx hs pl pu q
 ·exact h' pins s σ H x v vl vu lo hi sl Q I rx hs pl pu q
def tSl (r:V->Option Int->Option Int->Hp->VK->Prop) (te:TE) (tl th:TO):TE:=fun σ H Q=>te σ H fun x H1=>tl σ H1 fun l H2=>th σ H2 fun u H3=>r x l u H3 Q
theorem rn {r:V->Option Int->Option Int->Hp->VK->Prop} (hr:SlR X r) (he:PE X e te) (hl:PO X lo tl) (hu:PO X hi th):PE X (.Subscript e (.Slice lo hi none p2) pos) (tSl r te tl th):=by
 intro pins s σ H Q I h
 refine Subscript_ (thn (he pins s σ H _ I h) fun v s1 ⟨x,H1,I1,r1,q1⟩=>?_)
 refine wpAny_Slice (thn (hl pins s1 σ H1 _ I1 q1) fun vl s2 ⟨l,H2,I2,pl,q2⟩=>thn (hu pins s2 σ H2 _ I2 q2) fun vu s3 ⟨u,H3,I3,pu,q3⟩=>?_)
 rw [evalPart_none]
 refine wpAny_pure ?_
 have I4:Inv X pins σ H3 { s3 with heap:=s3.heap.push { cls:=.type "slice",data:=.fields #[vl,vu,.none] } }:=I3.kept (t':=s3.toks) fun b ob q=>Heap.get?_push_of_some _ q
 obtain ⟨T,id,hT,ht,hg⟩:=hr pins { s3 with heap:=s3.heap.push { cls:=.type "slice",data:=.fields #[vl,vu,.none] } } σ H3 x v vl vu l u s3.heap.objs.size Q I4 r1 (Heap.IsSliceOf.new ..) pl pu q3
 show wpAny (model X.prog X.w) X.A (subscriptTail e (.Slice lo hi none p2) v (.ref s3.heap.objs.size)) (EP X pins σ Q) X.xe { s3 with heap:=s3.heap.push { cls:=.type "slice",data:=.fields #[vl,vu,.none] } }
 exact tail_any (ops:=[.ref s3.heap.objs.size,v]) ht hT hg (by with_unfolding_all rfl)
def Bg (xs:List V) (lo hi:Option Int):List V:=(xs.drop (HT.sIx xs.length 0 lo)).take (HT.sIx xs.length xs.length hi - HT.sIx xs.length 0 lo)
theorem tO (xs:List V) (lo hi:Option Int):(Bg xs lo hi).length<=xs.length:=by
 unfold Bg
 rw [List.length_take,List.length_drop]
 omega
def Ym (K:PySem.W.Frag):V->Option Int->Option Int->Hp->VK->Prop:=fun x lo hi H Q=>∃ a xs,x = .ref a∧SqT K H a xs ∧
 ¬ (HT.sIx xs.length 0 lo=0∧HT.sIx xs.length xs.length hi=xs.length) ∧ ∀ p,H p=none->Q (.ref p) (upd H p (.tup (Bg xs lo hi)))
theorem Wu:SlR X (Ym X.K):=by
 intro pins s σ H x v vl vu lo hi sl Q I rx hs pl pu h
 obtain ⟨a,xs,rfl,hx,hw,q⟩:=h
 cases rx
 obtain ⟨its,r,ht,hz⟩:=I.tuple hx
 have hlen:its.toArray.size=xs.length:=by rw [List.size_toArray];exact r.length.symm
 refine ⟨"tuple",_,PyProof.Rows.slot_tuple_getitem.lookup,ht.typeIs,?_⟩
 refine HT.qM ht hs pl pu (by rw [hlen];exact hw) ?_ (by rw [hlen];exact hz)
 rw [hlen]
 refine ⟨.ref s.heap.objs.size,_,I.laid (t':=s.toks) (o:=.tup (Bg xs lo hi)) (fun b ob q=>Heap.get?_push_of_some _ q) (Nat.le_refl _) ?_,rfl,q _ (I.hok.fresh (Nat.le_refl _))⟩
 exact ⟨Nat.le_trans (tO xs lo hi) hz,_,(r.drop (HT.sIx xs.length 0 lo)).take (HT.sIx xs.length xs.length hi - HT.sIx xs.length 0 lo),IsTup.new _ _⟩
def Tv (K:PySem.W.Frag):R2:=fun x y H Q=>∃ a b xs ys,x = .ref a∧y = .ref b∧SqT K H a xs∧SqT K H b ys∧xs≠[]∧xs.length+ys.length<=sizeLine ∧
 (ys=[]->Q (.ref a) H)∧(ys≠[] -> ∀ p,H p=none->Q (.ref p) (upd H p (.tup (xs++ys))))
theorem Vals.nil_iff {xs:List V} {us:List Value} (r:Vals xs us):us=[]↔xs=[]:=by
 cases r with
 | nil=>simp
 | cons _ _=>simp
theorem Rf:OpR X (binaryOp .Add) (Tv X.K):=by
 intro pins s σ H x y v u Q I rx ry h
 obtain ⟨a,b,xs,ys,rfl,rfl,ha,hb,hx,hz,q1,q2⟩:=h
 cases rx
 cases ry
 obtain ⟨its,r1,p1,_⟩:=I.tuple ha
 obtain ⟨its2,r2,p2,_⟩:=I.tuple hb
 refine HT.Qa p1 p2 (fun z=>hx (r1.nil_iff.mp z)) (fun z=>⟨.ref a,H,I,rfl,q1 (r2.nil_iff.mp z)⟩) (fun z=>?_) (by rw [← r1.length,← r2.length];exact hz)
 refine ⟨.ref s.heap.objs.size,_,I.laid (t':=s.toks) (o:=.tup (xs++ys)) (fun b ob q=>Heap.get?_push_of_some _ q) (Nat.le_refl _) ?_,rfl,q2 (fun w=>z (r2.nil_iff.mpr w)) _ (I.hok.fresh (Nat.le_refl _))⟩
 exact ⟨by rw [List.length_append];exact hz,_,r1.append r2,IsTup.new _ _⟩
end
end L2
namespace L2
open PySem PySem.Spec PyProof.Rows
def ixN (n:Nat) (i:Int):Option Nat:=if 0<=i then (if i<n then some i.toNat else none) else if -(n:Int)<=i then some (i+n).toNat else none
def atI {α : Type} (xs:List α) (i:Int):Option α:=(ixN xs.length i).bind fun j=>xs[j]?
theorem uC {n:Nat} {i:Int} {j:Nat} (h:ixN n i=some j):seqIndex? i n=some j∧j<n ∧ -(n:Int)<=i∧i<n:=by
 unfold ixN at h
 by_cases h0:0<=i
 ·rw [if_pos h0] at h
  by_cases h1:i<n
  ·rw [if_pos h1] at h
   have e:i.toNat=j:=Option.some.inj h
   exact ⟨by rw [seqIndex_of h0 h1,e],by omega,by omega,h1⟩
  ·rw [if_neg h1] at h;cases h
 ·rw [if_neg h0] at h
  by_cases h1 : -(n:Int)<=i
  ·rw [if_pos h1] at h
   have e:(i+n).toNat=j:=Option.some.inj h
   exact ⟨by rw [seqIndex_neg (by omega) h1,e],by omega,h1,by omega⟩
  ·rw [if_neg h1] at h;cases h
theorem uv {α : Type} {xs:List α} {i:Int} {v : α} (h:atI xs i=some v):∃ j,seqIndex? i xs.length=some j∧xs[j]? = some v∧j<xs.length ∧ -(xs.length:Int)<=i∧i<xs.length:=by
 unfold atI at h
 cases e:ixN xs.length i with
 | none=>rw [e] at h;cases h
 | some j=>
  rw [e] at h
  obtain ⟨h1,h2,h3,h4⟩:=uC e
  exact ⟨j,h1,h,h2,h3,h4⟩
theorem mO {α : Type} {xs:List α} {j:Nat} {v : α} (h:xs[j]? = some v):atI xs (j:Int)=some v:=by
 have hj:j<xs.length:=(List.getElem?_eq_some_iff.mp h).1
 have e:ixN xs.length (j:Int)=some j:=by
  unfold ixN
  rw [if_pos (by omega),if_pos (by omega)];simp
 unfold atI;rw [e];exact h
def ut (b:Expr):Prop:=∀ o i,subscripted b false o i=operate [o,i] (getItem o i)
def IxR (X:Cx) (r:R2):Prop:=
 ∀ (value slice:Expr) (pins:List (Addr×Obj)) (s:Shared) (σ : St) (H:Hp) (x y:V) (v u:Value) (Q:VK),Inv X pins σ H s->RelV x v->RelV y u->r x y H Q ->
  subscripted slice false v u=operate [v,u] (getItem v u)->wpAny (model X.prog X.w) X.A (subscriptTail value slice v u) (EP X pins σ Q) X.xe s
def MtR (X:Cx) (id:String) (r:V->List V->Hp->VK->Prop):Prop:=
 ∀ (pins:List (Addr×Obj)) (s:Shared) (σ : St) (H:Hp) (x:V) (xs:List V) (v:Value) (us:List Value) (Q:VK),Inv X pins σ H s->RelV x v->Vals xs us->r x xs H Q ->
  wpAny (model X.prog X.w) X.A (call (.builtin id) (v :: us)) (EP X pins σ Q) X.xe s
section
variable {X:Cx} {a b:Expr} {ta tb:TE} {pos:Pos}
theorem IxR.or {r r':R2} (h:IxR X r) (h':IxR X r'):IxR X (fun x y H Q=>r x y H Q∨r' x y H Q):=by
 intro value slice pins s σ H x y v u Q I rx ry q hs
 rcases q with q | q
 ·exact h value slice pins s σ H x y v u Q I rx ry q hs
 ·exact h' value slice pins s σ H x y v u Q I rx ry q hs
theorem MtR.or {id:String} {r r':V->List V->Hp->VK->Prop} (h:MtR X id r) (h':MtR X id r'):MtR X id (fun x xs H Q=>r x xs H Q∨r' x xs H Q):=by
 intro pins s σ H x xs v us Q I rx rs q
 rcases q with q | q
 ·exact h pins s σ H x xs v us Q I rx rs q
 ·exact h' pins s σ H x xs v us Q I rx rs q
theorem Nm {r:R2} (hr:IxR X r) (ha:PE X a ta) (hb:PE X b tb) (hs:ut b):PE X (.Subscript a b pos) (tOp r ta tb):=by
 intro pins s σ H Q I h
 exact Subscript_ (Ud ha hb I h fun v u s2 x y H2 I2 rx ry q=>hr a b pins s2 σ H2 x y v u Q I2 rx ry q (hs _ _))
def NK (K:PySem.W.Frag):R2:=fun x y H Q=>∃ p xs i v,x = .ref p∧y = .int i∧SqL K H p xs∧atI xs i=some v∧Q v H
def Yh (K:PySem.W.Frag):R2:=fun x y H Q=>∃ p xs i v,x = .ref p∧y = .int i∧SqT K H p xs∧atI xs i=some v∧Q v H
def Yg:R2:=fun x y H Q=>∃ z i c,x = .str z∧y = .int i∧z.length<=sizeLine∧atI z.cps.toList i=some c∧Q (.str ⟨#[c]⟩) H
theorem Hq:IxR X (NK X.K):=by
 intro value slice pins s σ H x y v u Q I rx ry h hs
 obtain ⟨p,xs,i,z,rfl,rfl,hq,he,q⟩:=h
 cases rx
 obtain ⟨t,rfl⟩:=ry
 obtain ⟨its,r,pl,hz⟩:=I.list hq
 obtain ⟨j,h1,h2,h3,h4,h5⟩:=uv he
 obtain ⟨w,ew,rw'⟩:=r.get h2
 have hl:=r.length
 have hn:=oJ
 have fin:EP X pins σ Q w s:=⟨z,H,I,rw',q⟩
 by_cases h0:0<=i
 ·have hj:i.toNat=j:=by
   rw [seqIndex_of h0 h5] at h1
   exact Option.some.inj h1
  exact item_listR pl.isList h0 (by omega) (by rw [hj];simpa using ew) fin hs
 ·have hj:(i+(its.toArray.size:Int)).toNat=j:=by
   rw [seqIndex_neg (by omega) h4] at h1
   rw [List.size_toArray,← hl]
   exact Option.some.inj h1
  exact subscriptTail_builtinR (x:=w) pl.isList.typeIs slot_list_getitem.lookup
   (wpAny_getItem_list_neg (Q:=fun r s'=>r=w∧EP X pins σ Q r s') pl.isList (by omega) (by rw [List.size_toArray] <;> omega) (by omega) (by rw [hj];simpa using ew) ⟨rfl,fin⟩) hs
theorem UW:IxR X (Yh X.K):=by
 intro value slice pins s σ H x y v u Q I rx ry h hs
 obtain ⟨p,xs,i,z,rfl,rfl,hq,he,q⟩:=h
 cases rx
 obtain ⟨t,rfl⟩:=ry
 obtain ⟨its,r,pl,hz⟩:=I.tuple hq
 obtain ⟨j,h1,h2,h3,h4,h5⟩:=uv he
 obtain ⟨w,ew,rw'⟩:=r.get h2
 have hl:=r.length
 have hn:=oJ
 have fin:EP X pins σ Q w s:=⟨z,H,I,rw',q⟩
 exact subscriptTail_builtinR (x:=w) pl.typeIs slot_tuple_getitem.lookup
  (getItem_tuple (j:=j) (Q:=fun r s'=>r=w∧EP X pins σ Q r s') pl (by omega) (by omega) (by rw [List.size_toArray,← hl];exact h1) (by simpa using ew) ⟨rfl,fin⟩) hs
theorem UV:IxR X Yg:=by
 intro value slice pins s σ H x y v u Q I rx ry h hs
 obtain ⟨z,i,c,rfl,rfl,hz,he,q⟩:=h
 obtain ⟨t,rfl⟩:=rx
 obtain ⟨t',rfl⟩:=ry
 obtain ⟨j,h1,h2,h3,h4,h5⟩:=uv he
 have hl:z.cps.toList.length=z.length:=by simp [Str.length]
 rw [hl] at h1 h4 h5
 have hn:=oJ
 exact tail_any (typeIs_str s z t) slot_str_getitem.lookup (getItem_str (c:=c) (by
  have e1:decide (i < -(2 ^ 63:Int))=false:=decide_eq_false (by omega)
  have e2:decide (i ≥ 2 ^ 63)=false:=decide_eq_false (by omega)
  rw [e1,e2,Bool.or_false]) (by rw [h1];simpa using h2) ⟨.str ⟨#[c]⟩,H,I.tok _,⟨_,rfl⟩,q⟩) hs
def rIx (K:PySem.W.Frag):R2:=fun x y H Q=>NK K x y H Q∨Yh K x y H Q∨Yg x y H Q
theorem ik:IxR X (rIx X.K):=Hq.or (UW.or UV)
theorem Fd (its:List Value) (n j:Nat) (u:Value):Obj.mapSeq (·.setIfInBounds j u) { cls:=.type "list",data:=.seq its.toArray n }={ cls:=.type "list",data:=.seq (its.set j u).toArray n }:=by
 simp [Obj.mapSeq]
theorem Inv.lst {pins:List (Addr×Obj)} {σ : St} {H:Hp} {s:Shared} {p:Addr} {xs:List V} (I:Inv X pins σ H s) (h:H p=some (.lst xs)) :
  ∃ (its:List Value) (n:Nat),Vals xs its∧s.heap.get? p=some { cls:=.type "list",data:=.seq its.toArray n }∧xs.length<=sizeLine:=by
 obtain ⟨z,its,n,r,e⟩:=I.hok p _ h
 exact ⟨its,n,r,e,z⟩
theorem Inv.lstUpd {pins:List (Addr×Obj)} {σ : St} {H:Hp} {s:Shared} {p:Addr} {xs ys:List V} {its its':List Value} {n n':Nat} {f:Obj->Obj} (I:Inv X pins σ H s) (h:H p=some (.lst xs))
  (ho:s.heap.get? p=some { cls:=.type "list",data:=.seq its.toArray n }) (hf:f { cls:=.type "list",data:=.seq its.toArray n }={ cls:=.type "list",data:=.seq its'.toArray n' }) (r:Vals ys its') (hz:ys.length<=sizeLine) (t:Nat) :
  Inv X pins σ (upd H p (.lst ys)) { s with heap:=s.heap.update p f,toks:=t }:=by
 have e:(s.heap.update p f).get? p=some { cls:=.type "list",data:=.seq its'.toArray n' }:=by
  rw [Heap.get?_update_self f ho (by rw [hf] <;> rfl),hf]
 refine I.write (x:=p) (e:=p) (by rw [h];trivial) (.inl rfl) (fun b u hb q=>(Heap.get?_update_other _ _ (Ne.symm hb)).trans q) ⟨_,e⟩ ?_
 exact ⟨hz,its',n',r,e⟩
def HJ:V->V->V->Hp->(Hp->Prop)->Prop:=fun o i v H Q=>∃ p xs k j,o = .ref p∧i = .int k∧H p=some (.lst xs)∧ixN xs.length k=some j∧Q (upd H p (.lst (xs.set j v)))
theorem set_list:TY X HJ:=by
 intro pins s σ H o i v ov iv u Q I ro ri rv h
 obtain ⟨p,xs,k,j,rfl,rfl,hp,hj,q⟩:=h
 cases ro
 obtain ⟨t,rfl⟩:=ri
 obtain ⟨its,n,r,ho,hz⟩:=I.lst hp
 obtain ⟨h1,h2,h3,h4⟩:=uC hj
 have hl:=r.length
 have hn:=oJ
 have I':Inv X pins σ (upd H p (.lst (xs.set j v))) { s with heap:=s.heap.update p (Obj.mapSeq (·.setIfInBounds j u)) }:=
  I.lstUpd hp ho (Fd its n j u) (r.set rv j) (by rw [List.length_set];exact hz) s.toks
 by_cases h0:0<=k
 ·have hk:k.toNat=j:=by
   rw [seqIndex_of h0 h4] at h1
   exact Option.some.inj h1
  exact PySem.W.ki_setAt ho h0 (by omega) (by rw [List.size_toArray,← hl];exact h4) (by rw [hk];exact ⟨_,I',q⟩)
 ·have hk:(k+(its.toArray.size:Int)).toNat=j:=by
   rw [seqIndex_neg (by omega) h3] at h1
   rw [List.size_toArray,← hl]
   exact Option.some.inj h1
  exact PySem.W.ki_setBack ho (by omega) (by rw [List.size_toArray,← hl];exact h3) (by omega) (by rw [hk];exact ⟨_,I',q⟩)
theorem Ag (lo hi:Option Int) (n:Nat):(sliceBounds lo hi none n).1=((HT.sIx n 0 lo:Nat):Int)∧(sliceBounds lo hi none n).2.1=((HT.sIx n n hi:Nat):Int)∧(sliceBounds lo hi none n).2.2=1:=by
 refine ⟨?_,?_,rfl⟩
 ·cases lo with
  | none=>simp [sliceBounds,HT.sIx]
  | some i=>
   simp only [sliceBounds,HT.sIx,Option.getD_none,show (1:Int)>0 by decide,if_true]
   by_cases h:i<0
   ·simp only [h,if_true] <;> omega
   ·simp only [h,if_false] <;> omega
 ·cases hi with
  | none=>simp [sliceBounds,HT.sIx]
  | some i=>
   simp only [sliceBounds,HT.sIx,Option.getD_none,show (1:Int)>0 by decide,if_true]
   by_cases h:i<0
   ·simp only [h,if_true] <;> omega
   ·simp only [h,if_false] <;> omega
theorem yd (its:List Value) (lo hi:Option Int):slicePick its.toArray lo hi none=((its.drop (HT.sIx its.length 0 lo)).take (HT.sIx its.length its.length hi - HT.sIx its.length 0 lo)).toArray:=by
 obtain ⟨h1,h2,h3⟩:=Ag lo hi its.toArray.size
 unfold slicePick
 rw [h1,h2,h3]
 simp only [sliceRange_one,pick_run,List.size_toArray] <;> rfl
def Yl (K:PySem.W.Frag):V->Option Int->Option Int->Hp->VK->Prop:=fun x lo hi H Q=>∃ a xs,x = .ref a∧SqL K H a xs ∧ ∀ p,H p=none->Q (.ref p) (upd H p (.lst (Bg xs lo hi)))
theorem RX:SlR X (Yl X.K):=by
 intro pins s σ H x v vl vu lo hi sl Q I rx hs pl pu h
 obtain ⟨a,xs,rfl,hx,q⟩:=h
 cases rx
 obtain ⟨its,r,ht,hz⟩:=I.list hx
 have hlen:=r.length
 refine ⟨"list",_,slot_list_getitem.lookup,ht.isList.typeIs,?_⟩
 refine wpAny_getItem_list_slice ht.isList hs pl pu .none (by simp) ?_ (by rw [List.size_toArray] <;> omega)
 rw [yd,← hlen]
 refine ⟨.ref s.heap.objs.size,_,I.laid (t':=s.toks) (o:=.lst (Bg xs lo hi)) (fun b ob q=>Heap.get?_push_of_some _ q) (Nat.le_refl _) ?_,rfl,q _ (I.hok.fresh (Nat.le_refl _))⟩
 exact ⟨Nat.le_trans (tO xs lo hi) hz,_,0,(r.drop (HT.sIx xs.length 0 lo)).take (HT.sIx xs.length xs.length hi - HT.sIx xs.length 0 lo),Heap.get?_push_size _ rfl⟩
theorem yW:ir X (.builtin "len") (fun xs H Q=>∃ p ys,xs=[.ref p]∧(SqL X.K H p ys∨SqT X.K H p ys)∧Q (.int ys.length) H):=by
 intro pins s σ H xs us Q I r h
 obtain ⟨p,ys,rfl,hq,q⟩:=h
 obtain ⟨u,rfl,rx⟩:=vals1 r
 cases rx
 have hn:=oJ
 rcases hq with hq | hq
 ·obtain ⟨its,r',pl,hz⟩:=I.list hq
  have hlen:=r'.length
  exact Calls.call_len_list pl.isList (by simp only [List.size_toArray] <;> omega) ⟨.int ys.length,H,I.tok _,⟨s.toks+1,by rw [List.size_toArray,hlen]⟩,q⟩
 ·obtain ⟨its,r',pl,hz⟩:=I.tuple hq
  have hlen:=r'.length
  exact len_tuple pl (by simp only [List.size_toArray] <;> omega) ⟨.int ys.length,H,I.tok _,⟨s.toks+1,by rw [List.size_toArray,hlen]⟩,q⟩
theorem yX:ir X (.builtin "len") (fun xs H Q=>∃ z,xs=[.str z]∧z.length<=sizeLine∧Q (.int z.length) H):=by
 intro pins s σ H xs us Q I r h
 obtain ⟨z,rfl,hz,q⟩:=h
 obtain ⟨u,rfl,t,rfl⟩:=vals1 r
 have hn:=oJ
 exact len_str (by omega) ⟨.int z.length,H,I.tok _,⟨_,rfl⟩,q⟩
theorem ir.or {f:Value} {r r':List V->Hp->VK->Prop} (h:ir X f r) (h':ir X f r'):ir X f (fun xs H Q=>r xs H Q∨r' xs H Q):=by
 intro pins s σ H xs us Q I rs q
 rcases q with q | q
 ·exact h pins s σ H xs us Q I rs q
 ·exact h' pins s σ H xs us Q I rs q
theorem mR:ir X (.type "list") (fun xs H Q=>∃ p ys,xs=[.ref p]∧(SqL X.K H p ys∨SqT X.K H p ys) ∧ ∀ l,H l=none->Q (.ref l) (upd H l (.lst ys))):=by
 intro pins s σ H xs us Q I r h
 obtain ⟨p,ys,rfl,hq,q⟩:=h
 obtain ⟨u,rfl,rx⟩:=vals1 r
 cases rx
 have fin:∀ (its:List Value),Vals ys its->ys.length<=sizeLine -> ∀ (h':Heap) (c':Nat),(∀ b o',s.heap.get? b=some o'->h'.get? b=some o') ->
   h'.get? s.heap.objs.size=some { cls:=.type "list",dict:=none,data:=.seq its.toArray c',slots:=#[] }->EP X pins σ Q (.ref s.heap.objs.size) { s with heap:=h' }:=fun its r' hz h' c' kp e=>
  ⟨.ref s.heap.objs.size,_,I.laid (t':=s.toks) kp (Nat.le_refl _) (show fK X.prog X.w _ h' _ (.lst ys) from ⟨hz,its,c',r',e⟩),rfl,q _ (I.hok.fresh (Nat.le_refl _))⟩
 rcases hq with hq | hq
 ·obtain ⟨its,r',pl,hz⟩:=I.list hq
  have hlen:=r'.length
  obtain ⟨o,ho,hc,n,hd⟩:=pl.isList
  exact call_list_seq p (.inl rfl) ho hc hd (fun h' c' kp e=>fin its r' hz h' c' kp e) (by simp only [List.size_toArray] <;> omega)
 ·obtain ⟨its,r',pl,hz⟩:=I.tuple hq
  have hlen:=r'.length
  obtain ⟨o,ho,hc,n,hd⟩:=pl
  exact call_list_seq p (.inr rfl) ho hc hd (fun h' c' kp e=>fin its r' hz h' c' kp e) (by simp only [List.size_toArray] <;> omega)
theorem xU:ir X (.type "tuple") (fun xs H Q=>∃ p ys,xs=[.ref p]∧((SqL X.K H p ys ∧ ∀ l,H l=none->Q (.ref l) (upd H l (.tup ys)))∨(SqT X.K H p ys∧Q (.ref p) H))):=by
 intro pins s σ H xs us Q I r h
 obtain ⟨p,ys,rfl,h⟩:=h
 obtain ⟨u,rfl,rx⟩:=vals1 r
 cases rx
 rcases h with ⟨hq,q⟩ | ⟨hq,q⟩
 ·obtain ⟨its,r',pl,hz⟩:=I.list hq
  have hlen:=r'.length
  refine call_tuple_list pl.isList (fun h' kp=>?_) (by simp only [List.size_toArray] <;> omega)
  have I1:Inv X pins σ H { s with heap:=h' }:=I.kept (t':=s.toks) kp
  have I2:Inv X pins σ (upd H h'.objs.size (.tup ys)) { s with heap:=h'.push { cls:=.type "tuple",data:=.seq its.toArray } }:=
   I1.laid (t':=s.toks) (fun b o e=>Heap.get?_push_of_some _ e) (Nat.le_refl _) (show fK X.prog X.w _ _ _ (.tup ys) from ⟨hz,its,r',IsTup.new _ _⟩)
  exact ⟨.ref h'.objs.size,_,I2,rfl,q _ (I1.hok.fresh (Nat.le_refl _))⟩
 ·obtain ⟨its,r',pl,hz⟩:=I.tuple hq
  exact call_tuple_same pl ⟨.ref p,H,I,rfl,q⟩
def tyV (K:PySem.W.Frag) (T:String) (x:V) (H:Hp):Prop:=match x with
 | .str _=>T = "str"
 | .int _=>T = "int"
 | .ref p=>(T = "list" ∧ ∃ xs,SqL K H p xs)∨(T = "tuple" ∧ ∃ o,K.lookup p=some o∧o.cls = .type "tuple" ∧ o.dict=none) ∨
   (T = "dict" ∧ ((∃ kvs,H p=some (.dK kvs)) ∨ ∃ kvs,H p=some (.dT kvs)))∨(T = "set" ∧ ∃ S n,H p=some (.set S n))
 | _=>False
theorem Pj {pins:List (Addr×Obj)} {σ : St} {H:Hp} {s:Shared} {T:String} {x:V} {v:Value} (I:Inv X pins σ H s) (r:RelV x v) (ty:tyV X.K T x H) :
  s.TypeIs v T ∧ ∀ a,v = .ref a -> ∃ ob,s.heap.get? a=some ob∧ob.dict=none:=by
 cases x with
 | str z=>
  obtain ⟨t,rfl⟩:=r
  cases (show T = "str" from ty)
  exact ⟨typeIs_str s z t,fun _ e=>nomatch e⟩
 | int i=>
  obtain ⟨t,rfl⟩:=r
  cases (show T = "int" from ty)
  exact ⟨typeIs_int s i t,fun _ e=>nomatch e⟩
 | ref p=>
  cases r
  rcases ty with ⟨rfl,xs,hq⟩ | ⟨rfl,o,hk,hc,hd⟩ | ⟨rfl,hk⟩ | ⟨rfl,S,n,hk⟩
  ·obtain ⟨its,_,pl,_⟩:=I.list hq
   refine ⟨pl.isList.typeIs,fun a e=>?_⟩
   cases e
   obtain ⟨o,n,e,c,hd,_⟩:=pl
   exact ⟨o,e,hd⟩
  ·refine ⟨⟨o,I.kIn p o hk,hc⟩,fun a e=>?_⟩
   cases e
   exact ⟨o,I.kIn _ o hk,hd⟩
  ·have z:∃ o,s.heap.get? p=some o∧o.ExactDict:=by
    rcases hk with ⟨kvs,hk⟩ | ⟨kvs,hk⟩
    ·obtain ⟨_,_,_,_,o,_,_,e,ex,_⟩:=I.hok p _ hk
     exact ⟨o,e,ex⟩
    ·obtain ⟨_,_,_,_,o,_,_,e,ex,_⟩:=I.hok p _ hk
     exact ⟨o,e,ex⟩
   obtain ⟨o,e,ex⟩:=z
   refine ⟨⟨o,e,ex.1⟩,fun a e2=>?_⟩
   cases e2
   exact ⟨o,e,ex.2.1⟩
  ·obtain ⟨o,_,_,_,e,ex,_⟩:=I.hok p _ hk
   refine ⟨⟨o,e,ex.1⟩,fun a e2=>?_⟩
   cases e2
   exact ⟨o,e,ex.2.1⟩
 | _=>exact False.elim ty
def Zi (K:PySem.W.Frag) (T:String) (r:V->List V->Hp->VK->Prop) (to:TE):TE:=fun σ H Q=>to σ H fun x H1=>tyV K T x H1∧r x [] H1 Q
def tBM (K:PySem.W.Frag) (T:String) (r:V->List V->Hp->VK->Prop) (to:TE) (t:TA):TE:=fun σ H Q=>to σ H fun x H1=>tyV K T x H1∧t σ H1 fun xs H2=>r x xs H2 Q
variable {o e:Expr} {es:List Expr} {to:TE} {t:TA} {name:Str} {apos cpos:Pos} {T id:String} {r:V->List V->Hp->VK->Prop}
theorem VB (pa:PlainAttrs T) (slot:Slot T name id) (hty:typeOf (.builtin id)=pure (.type "method_descriptor")) (hm:MtR X id r) (ho:PE X o to)
  (hbase:attributeBase o name X.env (eval o X.env)=eval o X.env:=by rfl) (hline:(apos.endLine==cpos.line)=true:=by rfl):PE X (.Call (.Attribute o name apos) [] [] cpos) (Zi X.K T r to):=by
 intro pins s σ H Q I h
 refine wpAny_Call_method0_late hbase hline (thn (ho pins s σ H _ I h) fun v s1 ⟨x,H1,I1,r1,ty,q1⟩=>?_)
 obtain ⟨h1,h2⟩:=Pj I1 r1 ty
 exact ⟨T,id,pa,slot,hty,h1,h2,Calls.callWith_builtin rfl (PySem.evalArgs_none (hm pins s1 σ H1 x [] v [] Q I1 r1 .nil q1))⟩
theorem XN (pa:PlainAttrs T) (slot:Slot T name id) (hty:typeOf (.builtin id)=pure (.type "method_descriptor")) (hm:MtR X id r) (ho:PE X o to) (ha:PA X (e :: es) t)
  (hbase:attributeBase o name X.env (eval o X.env)=eval o X.env:=by rfl)
  (hfew:((backTo cpos (starEach (e :: es) X.env)).all (fun x=>!x.1)&&(backToKw cpos (keywordEach [] X.env)).all (fun x=>x.1.isSome)
   && decide ((e :: es).length+([]:List Keyword).length+(if ([]:List Keyword).isEmpty then 0 else 1)<30))=true:=by rfl)
  (hline:(apos.endLine==cpos.line)=true:=by rfl) (hs:starEach (e :: es) X.env=(false,eval e X.env) :: starEach es X.env:=by rfl) (hplain:(backTo cpos (starEach es X.env)).any (·.1)=false:=by rfl) :
  PE X (.Call (.Attribute o name apos) (e :: es) [] cpos) (tBM X.K T r to t):=by
 intro pins s σ H Q I h
 refine wpAny_Call_method_late hbase hfew hline rfl (thn (ho pins s σ H _ I h) fun v s1 ⟨x,H1,I1,r1,ty,q1⟩=>?_)
 obtain ⟨h1,h2⟩:=Pj I1 r1 ty
 refine ⟨T,id,pa,slot,hty,h1,h2,?_⟩
 have hA:=ha cpos pins s1 σ H1 _ I1 q1
 rw [hs] at hA ⊢
 refine Calls.callWith_builtin (by show (false||(backTo cpos (starEach es X.env)).any (·.1))=false;rw [hplain] <;> rfl) (Calls.evalArgs_plain ?_)
 exact thn hA fun us s2 ⟨vs,H2,I2,r2,q2⟩=>hm pins s2 σ H2 x vs v us Q I2 r1 r2 q2
end
end L2
namespace L2
open PySem PySem.Spec PyProof.Rows
def MtM (X:Cx) (id:String) (r:V->List V->Hp->VK->Prop):Prop:=
 ∀ (pins:List (Addr×Obj)) (s:Shared) (σ : St) (H:Hp) (x:V) (xs:List V) (v:Value) (us:List Value) (Q:VK),Inv X pins σ H s->RelV x v->Vals xs us->r x xs H Q ->
  wpAny (model X.prog X.w) X.A (call (.builtin id) (v :: us)) (EP X pins σ Q) X.xe s
theorem Vals.one:∀ {x:V} {us:List Value},Vals [x] us -> ∃ u,us=[u]∧RelV x u
 | _,_,.cons r .nil=>⟨_,rfl,r⟩
theorem Vals.two:∀ {x y:V} {us:List Value},Vals [x,y] us -> ∃ u v,us=[u,v]∧RelV x u∧RelV y v
 | _,_,_,.cons r (.cons q .nil)=>⟨_,_,rfl,r,q⟩
theorem Vals.zero:∀ {us:List Value},Vals [] us->us=[]
 | _,.nil=>rfl
theorem Vals.eraseIdx:∀ {xs:List V} {us:List Value} (i:Nat),Vals xs us->Vals (xs.eraseIdx i) (us.eraseIdx i)
 | _,_,_,.nil=>.nil
 | _,_,0,.cons _ t=>t
 | _,_,i+1,.cons r t=>.cons r (Vals.eraseIdx i t)
theorem Vals.reverse {xs:List V} {us:List Value} (h:Vals xs us):Vals xs.reverse us.reverse:=by
 induction h with
 | nil=>exact .nil
 | cons r t ih=>rw [List.reverse_cons,List.reverse_cons];exact Vals.append ih (.cons r .nil)
theorem Vals.rep {xs:List V} {us:List Value} (h:Vals xs us):∀ k:Nat,Vals (List.replicate k xs).flatten (List.replicate k us).flatten
 | 0=>.nil
 | k+1=>by
  rw [List.replicate_succ,List.replicate_succ,List.flatten_cons,List.flatten_cons]
  exact Vals.append h (Vals.rep h k)
theorem yG {α : Type}:∀ (l:List α) (i:Nat),(l.eraseIdx i).length<=l.length
 | [],_=>Nat.le_refl _
 | _ :: _,0=>Nat.le_succ _
 | _ :: r,i+1=>Nat.succ_le_succ (yG r i)
theorem foldl_rep (its:List Value):∀ (k:Nat) (acc:List Value),
  List.foldl (fun x1 x2=>x1++x2) acc.toArray (List.replicate k its.toArray)=(acc++(List.replicate k its).flatten).toArray
 | 0,acc=>by simp
 | k+1,acc=>by
  have e:acc.toArray++its.toArray=(acc++its).toArray:=by simp
  have e2:(acc++its)++(List.replicate k its).flatten=acc++(List.replicate (k+1) its).flatten:=by
   rw [List.replicate_succ,List.flatten_cons,List.append_assoc]
  rw [← e2,← foldl_rep its k (acc++its),← e,List.replicate_succ,List.foldl_cons]
section
variable {X:Cx} {pins:List (Addr×Obj)} {σ : St} {H:Hp} {s:Shared} {l b:Addr} {xs ys zs:List V}
theorem Inv.lset {its its':List Value} {n:Nat} {f:Array Value->Array Value} {t':Nat} (I:Inv X pins σ H s) (hH:H l=some (.lst xs))
  (e:s.heap.get? l=some { cls:=.type "list",data:=.seq its.toArray n }) (hf:f its.toArray=its'.toArray) (hv:Vals ys its') (hz:ys.length<=sizeLine) :
  Inv X pins σ (upd H l (.lst ys)) { s with heap:=s.heap.update l (Obj.mapSeq f),toks:=t' }:=by
 have q:=PySem.IsL.update e f
 rw [hf] at q
 refine I.write (x:=l) (e:=l) (by rw [hH];exact trivial) (.inl rfl) (fun b' u hb hu=>(Heap.get?_update_other s.heap (Obj.mapSeq f) (Ne.symm hb)).trans hu) ⟨_,q⟩ ?_
 exact ⟨hz,its',_,hv,q⟩
theorem Inv.lnew {its:List Value} {t':Nat} (I:Inv X pins σ H s) (hv:Vals ys its) (hz:ys.length<=sizeLine) :
  Inv X pins σ (upd H s.heap.objs.size (.lst ys)) { s with heap:=s.heap.push { cls:=.type "list",data:=.seq its.toArray },toks:=t' }:=
 I.laid (fun _ _ q=>Heap.get?_push_of_some _ q) (Nat.le_refl _) ⟨hz,its,0,hv,Heap.get?_push_size _ rfl⟩
theorem Inv.fresh (I:Inv X pins σ H s):H s.heap.objs.size=none:=I.hok.fresh (Nat.le_refl _)
theorem Inv.lstM (I:Inv X pins σ H s) (hH:H l=some (.lst xs)):xs.length<=sizeLine ∧ ∃ (its:List Value) (n:Nat),Vals xs its∧xs.length=its.length∧s.heap.get? l=some { cls:=.type "list",data:=.seq its.toArray n }:=by
 obtain ⟨z,its,n,r,e⟩:=I.hok l _ hH
 exact ⟨z,its,n,r,r.length,e⟩
theorem wz {n:Nat} (h:n<=sizeLine):Builtin.List.listTooLong n=false:=by
 unfold Builtin.List.listTooLong
 exact decide_eq_false (by omega)
end
section
variable {X:Cx}
def HD:V->List V->Hp->VK->Prop:=fun x vs H Q=>∃ l xs y,x = .ref l∧vs=[y]∧H l=some (.lst xs)∧xs.length<sizeLine∧Q .non (upd H l (.lst (xs++[y])))
theorem pH:MtM X "list.append" HD:=by
 intro pins s σ H x vs v us Q I rx rv h
 obtain ⟨l,xs,y,rfl,rfl,hH,hz,q⟩:=h
 cases rx
 obtain ⟨u,rfl,ru⟩:=rv.one
 obtain ⟨z,its,n,r,hl,e⟩:=I.lstM hH
 refine call_meets F.slot_list_append ⟨_,e,rfl⟩ F.entry_list_append (F.args_list_append_2 _ _) (PySem.list_append l its.toArray n u (by rw [List.size_toArray];omega)) ⟨e,?_⟩
 refine ⟨.non,_,I.lset (its':=its++[u]) hH e (by simp) (r.append (.cons ru .nil)) ?_,rfl,q⟩
 rw [List.length_append,List.length_singleton]
 omega
def NP:V->List V->Hp->VK->Prop:=fun x vs H Q=>∃ l xs i k y,x = .ref l∧vs=[.int i]∧H l=some (.lst xs) ∧ -(2 ^ 63)<=i∧i<2 ^ 63∧seqIndex? i xs.length=some k∧xs[k]? = some y∧Q y (upd H l (.lst (xs.eraseIdx k)))
theorem Mu:MtM X "list.pop" NP:=by
 intro pins s σ H x vs v us Q I rx rv h
 obtain ⟨l,xs,i,k,y,rfl,rfl,hH,h1,h2,hk,hy,q⟩:=h
 cases rx
 obtain ⟨u,rfl,ru⟩:=rv.one
 obtain ⟨t,rfl⟩:=ru
 obtain ⟨z,its,n,r,hl,e⟩:=I.lstM hH
 obtain ⟨w,hw,rw'⟩:=r.get hy
 refine call_meets F.slot_list_pop ⟨_,e,rfl⟩ F.entry_list_pop (F.args_list_pop_2 _ _)
  (MeetsSeq.list_pop_at l its.toArray n i t k w (fitsIndex_both h1 h2) (by rw [List.size_toArray,← hl];exact hk) (by rw [← Array.getElem?_toList];exact hw) (by rw [List.size_toArray];omega)) ⟨e,?_⟩
 refine ⟨y,_,I.lset (its':=its.eraseIdx k) hH e ?_ (r.eraseIdx k) ?_,rw',q⟩
 ·show its.toArray.eraseIdxIfInBounds k=(its.eraseIdx k).toArray
  rw [List.eraseIdxIfInBounds_toArray]
 ·have:=yG xs k
  omega
def Dc:V->List V->Hp->VK->Prop:=fun x vs H Q=>∃ l xs,x = .ref l∧vs=[]∧H l=some (.lst xs)∧Q .non (upd H l (.lst xs.reverse))
theorem Fe:MtM X "list.reverse" Dc:=by
 intro pins s σ H x vs v us Q I rx rv h
 obtain ⟨l,xs,rfl,rfl,hH,q⟩:=h
 cases rx
 have hus:=rv.zero
 subst hus
 obtain ⟨z,its,n,r,hl,e⟩:=I.lstM hH
 refine call_meets F.slot_list_reverse ⟨_,e,rfl⟩ F.entry_list_reverse (F.args_list_reverse_1 _) (AutoSeq1.list_reverse_list_0 l its.toArray n (by rw [List.size_toArray];omega)) ⟨e,?_⟩
 refine ⟨.non,_,I.lset (its':=its.reverse) hH e (by simp) r.reverse ?_,rfl,q⟩
 rw [List.length_reverse]
 omega
def Yd:R2:=fun x y H Q=>∃ l b xs zs,x = .ref l∧y = .ref b∧H l=some (.lst xs)∧H b=some (.lst zs)∧xs.length+zs.length<=sizeLine ∧ ∀ p,H p=none->Q (.ref p) (upd H p (.lst (xs++zs)))
theorem Vv:OpR X (binaryOp .Add) Yd:=by
 intro pins s σ H x y v u Q I rx ry h
 obtain ⟨l,b,xs,zs,rfl,rfl,hH,hB,hz,q⟩:=h
 cases rx
 cases ry
 obtain ⟨z,its,n,r,hl,e⟩:=I.lstM hH
 obtain ⟨z2,its2,n2,r2,hl2,e2⟩:=I.lstM hB
 refine PySem.P.add_list e e2 ?_ (by rw [List.size_toArray,List.size_toArray];omega)
 have ea:its.toArray++its2.toArray=(its++its2).toArray:=by simp
 rw [ea]
 exact ⟨.ref _,_,I.lnew (t':=s.toks) (r.append r2) (by rw [List.length_append];omega),rfl,q _ I.fresh⟩
def Wd:R2:=fun x y H Q=>∃ l k xs,x = .ref l∧y = .int k∧H l=some (.lst xs) ∧ -(2 ^ 63)<=k∧k<2 ^ 63∧xs.length*k.toNat<=sizeLine ∧
 ∀ p,H p=none->Q (.ref p) (upd H p (.lst (List.replicate k.toNat xs).flatten))
theorem len_rep {α : Type} (xs:List α) (k:Nat):(List.replicate k xs).flatten.length=k*xs.length:=by
 induction k with
 | zero=>simp
 | succ k ih=>rw [List.replicate_succ,List.flatten_cons,List.length_append,ih,Nat.succ_mul,Nat.add_comm]
theorem Vx:OpR X (binaryOp .Mult) Wd:=by
 intro pins s σ H x y v u Q I rx ry h
 obtain ⟨l,k,xs,rfl,rfl,hH,h1,h2,hz,q⟩:=h
 cases rx
 obtain ⟨t,rfl⟩:=ry
 obtain ⟨z,its,n,r,hl,e⟩:=I.lstM hH
 have hlen:its.toArray.size*k.toNat<=sizeLine:=by rw [List.size_toArray,← hl];exact hz
 have hcap:¬ its.toArray.size*k.toNat>(2 ^ 63 - 1) / 8:=by
  have:(sizeLine:Nat)<=(2 ^ 63 - 1) / 8:=by decide
  omega
 have hfit:¬ (!Builtin.List.listFitsIndex k)=true:=by
  rw [fitsIndex_both h1 h2]
  exact Bool.false_ne_true
 have hlong:¬ Builtin.List.listTooLong (its.toArray.size*k.toNat)=true:=by
  rw [wz hlen]
  exact Bool.false_ne_true
 have hnew:List.foldl (fun x1 x2=>x1++x2) #[] (List.replicate (if its.toArray.isEmpty=true then 0 else k.toNat) its.toArray)=(List.replicate k.toNat its).flatten.toArray:=by
  have f0:∀ m:Nat,List.foldl (fun x1 x2=>x1++x2) #[] (List.replicate m its.toArray)=(List.replicate m its).flatten.toArray:=fun m=>by
   have:=foldl_rep its m []
   rw [List.nil_append] at this
   exact this
  rw [f0]
  cases its with
  | nil=>simp
  | cons a r'=>rw [if_neg (by simp)]
 refine wpAny_binaryOp_repeat_ref (T:= "list") (U:= "int") (by decide) ⟨_,e,rfl⟩ (fun s'=>typeIs_int s' k t) noFill_list_mul F.fills_int_mul F.slot_int_rmul repeat_list F.slot_int_index.lookup
  (call_meets F.slot_int_rmul (typeIs_int s k t) F.entry_int_rmul (F.args_int_rmul_2 _ _) (int___rmul___int_list k t l its.toArray n)
   ⟨e,rfl,⟨_,e,rfl⟩,call_meets F.slot_list_mul ⟨_,e,rfl⟩ F.entry_list_mul (F.args_list_mul_2 _ _) (AutoListH.list___mul___list_int_3 l its.toArray n k t hfit hcap hlong) ⟨e,?_⟩⟩)
 rw [hnew]
 exact ⟨.ref _,_,I.lnew (t':=s.toks) (r.rep k.toNat) (by rw [len_rep,Nat.mul_comm];exact hz),rfl,q _ I.fresh⟩
end
section
variable {prog:Program} {w:World} {A:Around} {E:Value->Shared->Prop} {s:Shared}
end
section
variable {X:Cx}
end
end L2
namespace Att
open PySem PySem.W PySem.Calls PyProof.Rows
theorem uo {P:Params} {h:Heap}:∀ (ns:List Int) (vs:List Value),WellAll P h vs (ns.map WData.int)->IntsAre vs ns:=by
 intro ns
 induction ns with
 | nil=>
  intro vs w
  rw [List.map_nil] at w
  cases w
  exact .nil
 | cons n ns ih=>
  intro vs w
  rw [List.map_cons] at w
  cases w with
  | cons a b=>
   cases a
   exact .cons _ _ (ih _ b)
theorem Jy {l:OpenLaw} {n:Nat} (hn:l.most=some n) {P:Params} {h:Heap} {args:List WData} {vals:List Value}
  (hpre:l.row.toRowW.claim.pre args=true) (hwl:WellAll P h vals args) :
  ∃ a vs ns,vals=[Value.ref a]∧args=[WData.list (ns.map WData.int)]∧h.get? a=some { cls:=.type "list",data:=.seq vs.toArray }∧IntsAre vs ns∧ns.length<=n:=by
 have hsh:WShape.hasAll [] args [.list .int]=true:=(pre_splitW hpre).1
 have hc:l.pre.holds [] { args:=args }=true:=(pre_splitW hpre).2
 obtain ⟨d,r,rfl,h1,h2⟩:=hasAllW_cons hsh
 obtain rfl:=hasAllW_nil h2
 obtain ⟨xs,rfl,h3⟩:=hasW_list h1
 obtain ⟨ns,rfl⟩:=items_int h3
 have hlen:ns.length<=n:=by
  unfold OpenLaw.pre at hc
  have h4:(WTm.not (.lt (.lit (.int (n:Int))) (.len (.arg 0)))).holds [] { args:=[.list (ns.map .int)] }=true:=by
   have h4:=(holds_andW hc).1
   rw [hn] at h4
   exact h4
  have h5:=condW_of h4 (w_not (w_lt w_lit (w_len_list (w_arg rfl))))
  rw [List.length_map] at h5
  refine Nat.le_of_not_lt fun q=>?_
  have q':(n:Int)<((ns.length:Nat):Int):=by omega
  first
   | (rw [decide_eq_true q'] at h5;exact absurd h5 (by decide))
   | (simp at h5;omega)
 cases hwl with
 | cons w1 w2=>
  cases w2
  cases w1 with
  | list ho hall=>exact ⟨_,_,ns,rfl,rfl,ho,uo ns _ hall,hlen⟩
theorem Ju (l:OpenLaw) (args:List WData):l.row.toRowW.claim.post args (.bool true) args=true:=
 postW_of (r:=l.row.toRowW) (X:=(true==true))
  (show WShape.has [] (.bool true) .bool=true by first | rfl | decide | simp [WShape.has,WShape.arms,WShape.armsAll])
  (show (WTm.eq .res (.lit (.bool true))).value [] { args:=args,res:=some (.bool true),after:=args }=some (.bool (true==true)) from w_eq_bool (w_res rfl) w_lit) rfl
theorem Ar {l:OpenLaw} {n:Nat} {q:Program} {loose:List Str} {XP:(Str->Option Value)->Heap->Prop} {YP:World->Heap->Prop} {d:DefRec}
  (hn:l.most=some n) (hdf:d.params.defaults=[])
  (call:∀ (w:World) (s₀ s₁ : Shared) (mg mb:Str->Option Value) (fa:Addr) (o:Obj) (pm cd doc:Value) (a:Addr) (vs:List Value) (ns:List Int),
   Ground q loose [] XP w s₀ mg mb s₁.heap->YP w s₁.heap ->
   s₁.heap.get? fa=some o->o.data = .func (docDef d.name d.params d.body d.scope pm cd doc)->s₁.heap.CodeRec cd d.name->mg d.name=some (.ref fa) ->
   s₁.heap.get? a=some { cls:=.type "list",data:=.seq vs.toArray }->IntsAre vs ns->ns.length<=n->s₁.gens = #[] ->
   codeAny (model l.prog w) callerA (.call (.ref fa) ⟨[.ref a],[]⟩) (fun r s'=>r = .ok (.ret (.bool true))∧OldK s₁.heap s'.heap∧s'.os=s₁.os∧AllBare s'.gens) s₁) :
  WalkO q loose XP YP l.row.toRowW d [] (fun f vs=>PySem.call f vs):=by
 intro w s₀ s₁ mg mb G Y fa o pm cd doc dV kV ho hd hcd hD hmg hg args vals as hpre hlay hrd hwl hlo
 obtain rfl:dV = .none:=Dflts.none hD hdf
 obtain rfl:kV = .none:=Dflts.noKw hD
 obtain ⟨a,vs,ns,rfl,rfl,hobj,hints,hlen⟩:=Jy hn hpre hwl
 refine enter_call (codeAny_mono (call w s₀ s₁ mg mb fa o pm cd doc a vs ns G Y ho (fd_plain hd) hcd hmg hobj hints hlen hg) fun r s' hq=>?_)
 obtain ⟨rfl,h2,h3,h4⟩:=hq
 exact ⟨.inl ⟨.bool true,.bool true,[],rfl,fun _=>rfl,.bool true,Ju l _,fun _=>⟨List.Pairwise.nil,fun _ hm=>(nomatch hm)⟩⟩,h2,h3,h4⟩
section
variable {prog:Program} {w:World} {A:Around} {E:Value->Shared->Prop} {s:Shared} {K:Frag}
end
end Att
namespace L2
open PySem PySem.Spec PyProof.Rows
theorem yP:∀ {vs:List Value} {ns:List Int},IntsAre vs ns->Vals (ns.map V.int) vs
 | _,_,.nil=>.nil
 | _,_,.cons n t h=>.cons ⟨t,rfl⟩ (yP h)
def Only (H:Hp):Prop:=∀ b,H b=none ∨ ∃ o xs,H b=some (.frz o (.lst xs))
theorem Mq {P:Program} {w:World} {K:PySem.W.Frag} {mg mb:Str->Option Value} {CX:CXT} {k:Nat} {fa a:Addr} {fd:FuncData} {x:Str} {sp:Sp} {s₁ : Shared} {vs:List Value} {ns:List Int}
  (KX:K.In s₁.heap) (hns:s₁.heap.Ns mainGlobals mg) (hb:s₁.heap.Ns builtinsNs mb) (hbb:∀ x:Str,x ≠ "__name__" -> mb x=bootBuiltins x) (hlim:s₁.heap.NoLimit) (hseer:s₁.heap.NoSeer) (hg:s₁.gens = #[])
  (ha:s₁.heap.get? a=some { cls:=.type "list",data:=.seq vs.toArray }) (hi:IntsAre vs ns) (hl:ns.length<=sizeLine) (hr:Room k callerA)
  (F:∀ base:Heap,K.In base->base.Ns mainGlobals mg->FnOk P w K mg base CX k fa fd [x] sp) (hbind:∀ (s:Shared) (u:Value),BindsTo s fd ⟨[u],[]⟩ [(x,u)])
  (hsp:∀ H:Hp,Only H->SqL K H a (ns.map V.int)->sp [.ref a] H (fun v _=>v = .bl true) fun _ _ _=>False)
  (hCX:∀ H e s',CX [] H s₁ (fun _ _ _=>False) e s'->False) :
  codeAny (model P w) callerA (.call (.ref fa) ⟨[.ref a],[]⟩) (fun r s'=>r = .ok (.ret (.bool true))∧OldK s₁.heap s'.heap∧s'.os=s₁.os∧AllBare s'.gens) s₁:=by
 have rv:=yP hi
 have lenV:=hi.length
 have core:∀ H:Hp,Only H->SqL K H a (ns.map V.int)->HOk P w H s₁.heap->(∀ b,H b≠none->b=a)->(H a≠none->K.lookup a=none) ->
   codeAny (model P w) callerA (.call (.ref fa) ⟨[.ref a],[]⟩) (fun r s'=>r = .ok (.ret (.bool true))∧OldK s₁.heap s'.heap∧s'.os=s₁.os∧AllBare s'.gens) s₁:=by
  intro H hO hS hok hA hK
  have base_of:∀ {b:Addr} {o:Obj},s₁.heap.get? b=some o->H b=none->(zq s₁.heap H).get? b=some o:=fun e n=>LR e n
  have noA:∀ {b:Addr} {o:Obj} {es:Array DictEntry} {ep:Nat},s₁.heap.get? b=some o->o.data = .dict es ep->H b=none:=fun {b o es ep} e d=>by
   cases q:H b with
   | none=>rfl
   | some u=>
    have e':b=a:=hA b (by rw [q];simp)
    subst e'
    rw [ha] at e;cases e
    have d':Data.seq vs.toArray _=Data.dict es ep:=d
    cases d'
  have nsK:∀ {b:Addr} {m:Str->Option Value},s₁.heap.Ns b m->(zq s₁.heap H).Ns b m:=fun {b m} ⟨o,es,ep,e,d,r⟩=>⟨o,es,ep,base_of e (noA e d),d,r⟩
  have hKb:K.In (zq s₁.heap H):=fun b o e=>base_of (KX b o e) (by
   cases q:H b with
   | none=>rfl
   | some u=>
    have e':b=a:=hA b (by rw [q];simp)
    subst e'
    rw [hK (by rw [q];simp)] at e;cases e)
  have hM:Mod K mg (zq s₁.heap H):=⟨hKb,nsK hns,⟨mb,nsK hb,hbb⟩,(let ⟨mc,h1,h2⟩:=hlim;⟨mc,nsK h1,h2⟩),
   { statics:=let ⟨mc,h1,h2⟩:=hseer.statics;⟨mc,nsK h1,h2⟩
     mods:=let ⟨mc,h1,h2⟩:=hseer.mods;⟨mc,nsK h1,h2⟩
     imp:=let ⟨mc,h1,h2⟩:=hseer.imp;⟨mc,nsK h1,h2⟩
     main:=by
      obtain ⟨mg',bm,ob,h1,h2,h3,h4,h5⟩:=hseer.main
      refine ⟨mg',bm,ob,nsK h1,h2,base_of h3 ?_,h4,h5⟩
      cases q:H bm with
      | none=>rfl
      | some u=>
       have e':bm=a:=hA bm (by rw [q];simp)
       subst e'
       rw [ha] at h3;cases h3
       exact absurd h4 (by intro z;injection z with z;exact absurd z (by decide)) }⟩
  have e0:Env0 P w K mg (zq s₁.heap H) callerA [] s₁ H:=⟨rfl,hM,fun b o e=>QZ e,Nat.le_of_eq (IW _ _),trivial,fun b hb=>absurd (show b∈([]:List Addr) from hb) (by simp),hok,.of_eq hg⟩
  refine codeAny_mono ((F _ hKb (nsK hns)).run callerA [] s₁ H ⟨[.ref a],[]⟩ [.ref a] [.ref a] _ _ hr e0 (hbind s₁ (.ref a)) (.cons rfl .nil) (hsp H hO hS)) fun r s' h=>?_
  cases r with
  | error e=>exact (hCX H e s' h).elim
  | ok fl=>
   cases fl with
   | next=>exact False.elim h
   | brk=>exact False.elim h
   | cont=>exact False.elim h
   | ret u=>
    obtain ⟨v,H',os,bare,un,hok',r',q⟩:=h
    have q':v = .bl true:=q
    subst q'
    obtain rfl:u=Value.bool true:=r'
    refine ⟨rfl,OldK.of_keep fun b o e=>?_,os,bare⟩
    cases q:H b with
    | none=>exact un.keep b o e q (by intro z;exact absurd (show b∈([]:List Addr) from z) (by simp)) (by simp)
    | some u=>
     rcases hO b with z | ⟨ob,xs,z⟩
     ·rw [q] at z;cases z
     ·have z2:=un.frzs b ob _ z
      obtain ⟨e1,_⟩:=hok b _ z
      obtain ⟨e2,_⟩:=hok' b _ z2
      rw [e] at e1;cases e1
      exact e2
 cases hk:K.lookup a with
 | some o=>
  have e:=KX a o hk
  rw [ha] at e
  cases e
  refine core (fun _=>none) (fun _=>.inl rfl) (.inr ⟨_,vs.toArray,_,hk,rfl,rfl,rfl,by rw [List.size_toArray,lenV];exact hl,by simpa using rv⟩) (fun b u z=>by have z':(none:Option HO)=some u:=z;cases z') (fun b z=>absurd rfl z) fun z=>absurd rfl z
 | none=>
  refine core (fun b=>if b=a then some (.frz { cls:=.type "list",data:=.seq vs.toArray } (.lst (ns.map V.int))) else none) (fun b=>?_) (.inl (.inr ⟨{ cls:=.type "list",data:=.seq vs.toArray },if_pos rfl⟩)) (fun b u z=>?_) (fun b z=>?_) fun _=>hk
  ·by_cases hb:b=a
   ·exact .inr ⟨_,_,if_pos hb⟩
   ·exact .inl (if_neg hb)
  ·by_cases hb:b=a
   ·have z':=(if_pos hb).symm.trans z
    cases z'
    subst hb
    exact ⟨ha,by rw [List.length_map];exact hl,vs,_,rv,ha⟩
   ·have z':=(if_neg hb).symm.trans z
    cases z'
  ·by_cases hb:b=a
   ·exact hb
   ·exact absurd (if_neg hb) z
end L2
namespace L2
open PySem PySem.Spec PyProof.Rows
abbrev KOf {K:PySem.W.Frag} {h:Heap} (_:K.In h):PySem.W.Frag:=K
theorem SM {l:PySem.W.OpenLaw} {n k:Nat} {q:Program} {loose:List Str} {XP:(Str->Option Value)->Heap->Prop} {YP:World->Heap->Prop} {d:DefRec} {K:Params->PySem.W.Frag} {CX:World->CXT} {sp:World->Sp} {x:Str}
  (hn:l.most=some n) (hn2:n<=sizeLine) (hdf:d.params.defaults=[]) (himp:importsNone q=true) (hr:Room k callerA)
  (hY:∀ (w:World) (h:Heap),YP w h->(K w.params).In h)
  (F:∀ (w:World) (mg:Str->Option Value) (fa:Addr) (h:Heap),(K w.params).In h->h.Ns mainGlobals mg->mg d.name=some (.ref fa) ->
   ∃ fd:FuncData,(∀ (s:Shared) (u:Value),BindsTo s fd ⟨[u],[]⟩ [(x,u)]) ∧
    ∀ base:Heap,(K w.params).In base->base.Ns mainGlobals mg->FnOk l.prog w (K w.params) mg base (CX w) k fa fd [x] (sp w))
  (hsp:∀ (w:World) (H:Hp) (a:Addr) (ns:List Int),ns.length<=n->Only H->SqL (K w.params) H a (ns.map V.int)->sp w [.ref a] H (fun v _=>v = .bl true) fun _ _ _=>False)
  (hCX:∀ (w:World) (H:Hp) (s:Shared) (e:Value) (s':Shared),CX w [] H s (fun _ _ _=>False) e s'->False) :
  PySem.W.WalkO q loose XP YP l.row.toRowW d [] (fun f vs=>PySem.call f vs):=by
 refine Att.Ar hn hdf fun w s₀ s₁ mg mb fa o pm cd doc a vs ns G Y ho hd hcd hmg hobj hints hlen hg=>?_
 have KX:=hY w _ Y
 obtain ⟨fd,hb,hF⟩:=F w mg fa _ KX G.T.g hmg
 exact Mq KX G.T.g G.T.b G.T.builtins G.T.nolimit (G.T.seer himp) hg hobj hints (Nat.le_trans hlen hn2) hr hF hb (fun H hO hS=>hsp w H a ns hlen hO hS) fun H e s'=>hCX w H s₁ e s'
end L2
namespace L2
open PySem PySem.Spec PyProof.Rows
abbrev CX0:CXT:=fun _ _ _ _ _ _=>False
abbrev E0:XK:=fun _ _ _=>False
theorem Tu {X:Cx}:uQ CX0 X E0:=fun _ _ _ _ _ _ _ h=>h.elim
structure Fun (K:PySem.W.Frag) (x qual:Str) (st:Stmt) (f:Addr) (fd:FuncData):Prop where
 ex:∃ (oc:Value) (od:Option Addr) (kV doc pm:Value) (an:Option Addr) (cdv ct:Value) (osl:Array (Option Value)),
  fd=PySem.W.fnOf x qual (jD st) (gF st) (aL st) .none kV doc pm an cdv ct∧K.lookup f=some ⟨oc,od,.func fd,osl⟩∧PySem.W.codeIn K cdv qual=true
 kp:PySem.W.keepIn K (.ref f)=true
section
variable {P:Program} {w:World} {K:PySem.W.Frag} {mg:Str->Option Value} {base:Heap}
theorem Fun.ok {x qual:Str} {st:Stmt} {f:Addr} {fd:FuncData} {N ps:List Str} {k:Nat} {sp:Sp} (F:Fun K x qual st f fd) (S:FnScope N ps (aL st)) (len:∀ vs H Q E,sp vs H Q E->vs.length=ps.length)
  (hbody:∀ (cdv:Value) (A:Around) (outer:List Env) (s:Shared) (H:Hp) (vs:List V) (Q:VK) (E:XK),Room k (A.deeper (envOfC qual (aL st) s.heap.objs.size f cdv))->sp vs H Q E ->
   ∃ t,PSs (ul CX0 P w K mg base N qual (aL st) f cdv A outer s H E).nox (gF st) t∧t { nx:=fun _ H'=>Q .non H',rt:=Q } (start N vs) H):FnOk P w K mg base CX0 (k+1) f fd ps sp:=by
 obtain ⟨oc,od,kV,doc,pm,an,cdv,ct,osl,rfl,lk,hcd⟩:=F.ex
 refine Ti lk hcd S len fun A outer s H vs Q E hr hsp=>?_
 obtain ⟨t,h,q⟩:=hbody cdv A outer s H vs Q E hr hsp
 exact ⟨t,h.nox,q⟩
theorem Fun.binds {x qual:Str} {st:Stmt} {f:Addr} {fd:FuncData} {ps:List Str} (F:Fun K x qual st f fd)
  (h:∀ (kV doc pm:Value) (an:Option Addr) (cdv ct:Value) (us:List Value),us.length=ps.length->bindArgs (PySem.W.fnOf x qual (jD st) (gF st) (aL st) .none kV doc pm an cdv ct) ⟨us,[]⟩=pure (ps.zip us)):Binds K fd ps []:=by
 obtain ⟨oc,od,kV,doc,pm,an,cdv,ct,osl,rfl,lk,hcd⟩:=F.ex
 exact .all (h kV doc pm an cdv ct)
theorem Ej {x qual:Str} {st:Stmt} {f:Addr} {oc:Value} {od an:Option Addr} {osl:Array (Option Value)} {kV doc pm cdv ct:Value} (l:K.lookup f=some ⟨oc,od,.func (PySem.W.fnOf x qual (jD st) (gF st) (aL st) .none kV doc pm an cdv ct),osl⟩)
  (c:PySem.W.codeIn K cdv qual=true) (k:PySem.W.keepIn K (.ref f)=true):Fun K x qual st f (PySem.W.fnOf x qual (jD st) (gF st) (aL st) .none kV doc pm an cdv ct):=⟨⟨oc,od,kV,doc,pm,an,cdv,ct,osl,rfl,l,c⟩,k⟩
end
section
variable {X:Cx}
end
def uh (H H':Hp):Prop:=∀ b o,H b=some o->H' b=some o
theorem uh.refl (H:Hp):uh H H:=fun _ _ h=>h
theorem uh.trans {H H1 H2:Hp} (a:uh H H1) (b:uh H1 H2):uh H H2:=fun c o h=>b c o (a c o h)
theorem uh.free {H H':Hp} (e:uh H H') {l:Addr} (h:H' l=Option.none):H l=Option.none:=by
 cases q:H l with
 | none=>rfl
 | some o=>
  rw [e l o q] at h
  cases h
theorem uh.seq {K:PySem.W.Frag} {H H':Hp} {a:Addr} {xs:List V} (e:uh H H') (h:SqL K H a xs):SqL K H' a xs:=by
 rcases h with (h | ⟨o,h⟩) | h
 ·exact .inl (.inl (e _ _ h))
 ·exact .inl (.inr ⟨o,e _ _ h⟩)
 ·exact .inr h
end L2
namespace L2
open PySem PySem.Spec PyProof.Rows
def WX (i j:Int):Prop:=i.natAbs<2 ^ 4000∧j.natAbs<2 ^ 4000
theorem WX.ok {i j:Int} (h:WX i j):IntMulOk i j:=
 IntMulOk.of_le (intBits_le_iff.mpr h.1) (intBits_le_iff.mpr h.2) (by decide)
section
variable {X:Cx}
theorem jn:ir X (.builtin "isinstance") (fun xs H Q=>∃ (x:V) (T:String) (t:Value) (b:Bool),xs=[x,.ty T]∧TyOf X.K H x t∧PySem.W.kitOne X.K t (.type T)=some b∧Q (.bl b) H):=by
 intro pins s σ H xs us Q I r h
 obtain ⟨x,T,t,b,rfl,ty,e,q⟩:=h
 obtain ⟨u,u2,rfl,rx,ry⟩:=vals2 r
 cases (show u2=Value.type T from ry)
 exact Jc I rx ty e fun tk=>⟨.bl b,H,I.tok tk,rfl,q⟩
theorem nY:∀ {bs:List Bool} {us:List Value},Vals (bs.map V.bl) us->LSm.BoolsAre us bs
 | [],_,.nil=>.nil
 | b :: bs,_,.cons r t=>by
  cases (show _=Value.bool b from r)
  exact .cons _ (nY t)
theorem JW (hc:X.calm=true):ir X (.builtin "all") (fun xs H Q=>∃ (p:Addr) (bs:List Bool),xs=[.ref p]∧SqL X.K H p (bs.map V.bl)∧Q (.bl (bs.all id)) H):=by
 intro pins s σ H xs us Q I r h
 obtain ⟨p,bs,rfl,hp,q⟩:=h
 obtain ⟨u,rfl,ru⟩:=vals1 r
 cases (show u=Value.ref p from ru)
 obtain ⟨its,rv,pl,hz⟩:=I.list hp
 have lt:p<s.heap.objs.size:=by
  obtain ⟨o,n,e,_⟩:=pl
  exact Heap.lt_size e
 have ba:=nY rv
 have hd:=I.ok.hd hc
 refine call_all_walk (wpAny_pyIter_list pl.isList ?_)
 refine ⟨s.heap.objs.size,[s.heap.objs.size,p],[s.heap.objs.size],its.toArray.size,_,_,fun i=>(bs[i]?).getD true,rfl,
  Walks.list (A:=X.A.in1) hd _ p (Nat.ne_of_lt lt) its.toArray,⟨⟨_,Heap.get?_push_size _ rfl,rfl,rfl⟩,pl.isList.push _⟩,fun i v s' Q' E' hP hQ=>?_,fun h' tk hk=>?_⟩
 ·obtain ⟨b,e,rfl⟩:=ba.get i v (by simpa using hP)
  dsimp only at hQ
  rw [e] at hQ
  exact wpAny_truthy_bool hQ
 ·have e:((List.range its.toArray.size).all fun i=>(bs[i]?).getD true)=bs.all id:=by
   rw [List.size_toArray,ba.length];exact LSm.range_all bs
  rw [e]
  exact ⟨.bl (bs.all id),H,I.kept (LSm.kept_iter hk),rfl,q⟩
theorem JX (hc:X.calm=true):ir X (.builtin "any") (fun xs H Q=>∃ (p:Addr) (bs:List Bool),xs=[.ref p]∧SqL X.K H p (bs.map V.bl)∧Q (.bl (bs.any id)) H):=by
 intro pins s σ H xs us Q I r h
 obtain ⟨p,bs,rfl,hp,q⟩:=h
 obtain ⟨u,rfl,ru⟩:=vals1 r
 cases (show u=Value.ref p from ru)
 obtain ⟨its,rv,pl,hz⟩:=I.list hp
 have lt:p<s.heap.objs.size:=by
  obtain ⟨o,n,e,_⟩:=pl
  exact Heap.lt_size e
 have ba:=nY rv
 have hd:=I.ok.hd hc
 refine call_any_walk (wpAny_pyIter_list pl.isList ?_)
 refine ⟨s.heap.objs.size,[s.heap.objs.size,p],[s.heap.objs.size],its.toArray.size,_,_,fun i=>(bs[i]?).getD false,rfl,
  Walks.list (A:=X.A.in1) hd _ p (Nat.ne_of_lt lt) its.toArray,⟨⟨_,Heap.get?_push_size _ rfl,rfl,rfl⟩,pl.isList.push _⟩,fun i v s' Q' E' hP hQ=>?_,fun h' tk hk=>?_⟩
 ·obtain ⟨b,e,rfl⟩:=ba.get i v (by simpa using hP)
  dsimp only at hQ
  rw [e] at hQ
  exact wpAny_truthy_bool hQ
 ·have e:((List.range its.toArray.size).any fun i=>(bs[i]?).getD false)=bs.any id:=by
   rw [List.size_toArray,ba.length];exact LSm.range_any bs
  rw [e]
  exact ⟨.bl (bs.any id),H,I.kept (LSm.kept_iter hk),rfl,q⟩
end
mutual
inductive Dp (K:PySem.W.Frag) (H:Hp):V->PyData->Prop where
 | non:Dp K H .non .none
 | bl (b:Bool):Dp K H (.bl b) (.bool b)
 | int (i:Int):Dp K H (.int i) (.int i)
 | str (x:Str):Dp K H (.str x) (.str x)
 | lst {a:Addr} {xs:List V} {ds:List PyData}:SqL K H a xs->DpAll K H xs ds->Dp K H (.ref a) (.list ds)
 | tup {a:Addr} {xs:List V} {ds:List PyData}:SqT K H a xs->DpAll K H xs ds->Dp K H (.ref a) (.tuple ds)
inductive DpAll (K:PySem.W.Frag) (H:Hp):List V->List PyData->Prop where
 | nil:DpAll K H [] []
 | cons {x:V} {xs:List V} {d:PyData} {ds:List PyData}:Dp K H x d->DpAll K H xs ds->DpAll K H (x :: xs) (d :: ds)
end
section
variable {X:Cx} {pins:List (Addr×Obj)} {σ : St} {H:Hp} {s:Shared}
mutual
theorem Dp.reads (I:Inv X pins σ H s):∀ {x:V} {d:PyData} {u:Value},Dp X.K H x d->RelV x u -> ∃ as,Reads s.heap u d as
 | _,_,u,.non,r=>by cases (show u=Value.none from r);exact ⟨_,.none⟩
 | _,_,u,.bl b,r=>by cases (show u=Value.bool b from r);exact ⟨_,.bool b⟩
 | _,_,u,.int i,r=>by obtain ⟨t,e⟩:=(show ∃ t,u=Value.int i t from r);cases e;exact ⟨_,.int i t⟩
 | _,_,u,.str x,r=>by obtain ⟨t,e⟩:=(show ∃ t,u=Value.str x t from r);cases e;exact ⟨_,.str x t⟩
 | _,_,u,.lst (a:=a) hq hd,r=>by
  cases (show u=Value.ref a from r)
  obtain ⟨its,rv,p,hz⟩:=I.list hq
  obtain ⟨as,q⟩:=DpAll.reads I hd rv
  obtain ⟨o,ho,hc,n,hdt⟩:=p.isList
  exact ⟨_,Reads.list ho hc hdt (by simpa using q)⟩
 | _,_,u,.tup (a:=a) hq hd,r=>by
  cases (show u=Value.ref a from r)
  obtain ⟨its,rv,p,hz⟩:=I.tuple hq
  obtain ⟨as,q⟩:=DpAll.reads I hd rv
  obtain ⟨o,ho,hc,n,hdt⟩:=p
  exact ⟨_,Reads.tuple ho hc hdt (by simpa using q)⟩
theorem DpAll.reads (I:Inv X pins σ H s):∀ {xs:List V} {ds:List PyData} {us:List Value},DpAll X.K H xs ds->Vals xs us -> ∃ as,ReadsAll s.heap us ds as
 | _,_,_,.nil,.nil=>⟨_,.nil⟩
 | _,_,_,.cons h t,.cons r rr=>by
  obtain ⟨as,q⟩:=Dp.reads I h r
  obtain ⟨bs,p⟩:=DpAll.reads I t rr
  exact ⟨_,.cons q p⟩
end
end
section
variable {X:Cx}
def Ye (K:PySem.W.Frag):R2:=fun x y H Q=>∃ d e,Dp K H x d∧Dp K H y e∧SeqAt.shaped d=true∧SeqAt.shaped e=true∧Q (.bl (PyData.eqv d e)) H
def Yj (K:PySem.W.Frag):R2:=fun x y H Q=>∃ d e,Dp K H x d∧Dp K H y e∧SeqAt.shaped d=true∧SeqAt.shaped e=true∧Q (.bl (!PyData.eqv d e)) H
theorem nu (hu:X.A.units+64<cLine):OpR X (compareOp .Eq) (Ye X.K):=by
 intro pins s σ H x y v u Q I rx ry h
 obtain ⟨d,e,hx,hy,sx,sy,q⟩:=h
 obtain ⟨as,r1⟩:=hx.reads I rx
 obtain ⟨bs,r2⟩:=hy.reads I ry
 exact eq_dataH r1 r2 sx sy hu ⟨.bl _,H,I,rfl,q⟩
theorem oR (hu:X.A.units+64<cLine):OpR X (compareOp .NotEq) (Yj X.K):=by
 intro pins s σ H x y v u Q I rx ry h
 obtain ⟨d,e,hx,hy,sx,sy,q⟩:=h
 obtain ⟨as,r1⟩:=hx.reads I rx
 obtain ⟨bs,r2⟩:=hy.reads I ry
 exact ne_dataH r1 r2 sx sy hu ⟨.bl _,H,I,rfl,q⟩
end
end L2
namespace L2
open PySem PySem.Spec PyProof.Rows
section
variable {prog:Program} {w:World} {A:Around} {R:Result->Shared->Prop} {s:Shared}
abbrev Ih (ifs:List Expr) (env:Env):Sem Bool:=
 forIn ifs true fun c r=>if r=true then do let ok ← isTrue c env (eval c env);pure (ForInStep.yield ok) else pure (ForInStep.yield r)
theorem Be {elt tg iter:Expr} {ifs:List Expr} {scope:Scope} {pos:Pos} {it acc:Value} {env:Env} (I:Nat->Shared->Prop)
  (turn:∀ n s,I n s->wpAny (model prog w) A (pyNext it) (fun r s₁ => match r with
   | none=>R (.ok .next) s₁
   | some v=>wpAny (model prog w) A (letOwnedTupleGo tg it v) (fun _ s₂ => wpAny (model prog w) A (assign tg env v) (fun _ s₃ =>
     wpAny (model prog w) A (Ih ifs env) (fun ok s₄ =>
      if ok=true then wpAny (model prog w) A (eval elt env) (fun x s₅ => wpAny (model prog w) A (call (.builtin "list.append") [acc,x]) (fun _ s₆ => ∃ m,m<n∧I m s₆) (fun _ _=>False) s₅) (fun _ _=>False) s₄
      else ∃ m,m<n∧I m s₄) (fun _ _=>False) s₃) (fun _ _=>False) s₂) (fun _ _=>False) s₁) (fun _ _=>False) s)
  (n:Nat) (h:I n s) :
  codeAny (model prog w) A (.compLoop (.ListComp elt [⟨tg,iter,ifs,0⟩] scope pos) 0 it acc env) R s:=by
 have no:∀ {α : Type} {m:Sem α} {Q : α -> Shared->Prop} {E:Value->Shared->Prop} {s:Shared},wpAny (model prog w) A m Q (fun _ _=>False) s->wpAny (model prog w) A m Q E s:=
  fun h=>wpAny_mono h (fun _ _ q=>q) fun _ _ f=>f.elim
 refine codeAny_loop rfl I (fun n s hI=>?_) n h
 show wpAny _ A (Sem.onRaise (compTurn (.ListComp elt [⟨tg,iter,ifs,0⟩] scope pos) 0 it acc env) (fun x=>do noteFrame x env;theTreesLotGoes x)) _ _ s
 refine wpAny_noted ?_
 rw [compTurn_list]
 refine wpAny_bind (wpAny_standAt (wpAny_bind (wpAny_mono (no (turn n s hI)) (fun r s₁ h₁ => ?_) fun _ _ z=>z)))
 cases r with
 | none=>exact wpAny_pure h₁
 | some v=>
  refine wpAny_bind (wpAny_mono (no h₁) (fun _ s₂ h₂ => ?_) fun _ _ z=>z)
  refine wpAny_bind (wpAny_mono (no h₂) (fun _ s₃ h₃ => ?_) fun _ _ z=>z)
  refine wpAny_bind (wpAny_mono (no h₃) (fun ok s₄ h₄ => ?_) fun _ _ z=>z)
  cases ok with
  | false=>exact wpAny_pure ⟨rfl,h₄⟩
  | true=>
   refine wpAny_bind (wpAny_bind (wpAny_mono (no h₄) (fun x s₅ h₅ => ?_) fun _ _ z=>z))
   refine wpAny_bind (wpAny_mono (no h₅) (fun _ s₆ h₆ => ?_) fun _ _ z=>z)
   exact wpAny_pure (wpAny_pure ⟨rfl,h₆⟩)
end
theorem qe {env:Env}:∀ (names:List (Str×NameKind)) (cs:List (Str×Addr)),
  (∀ n,(n,NameKind.free)∈names -> ∃ c,env.cells.lookup n=some c) ->
  ∃ cl:List (Str×Addr),(forIn names cs (fun (x:Str×NameKind) (r:List (Str×Addr))=>if (x.2==NameKind.free)=true then do let c ← cellOf env x.1;pure (ForInStep.yield ((x.1,c) :: r)) else pure (ForInStep.yield r)):Sem _)=pure cl ∧
   (∀ x c,(x,c)∈cl->(x,c)∈cs∨env.cells.lookup x=some c)∧(∀ x c,(x,c)∈cs -> ∃ c',(x,c')∈cl) ∧ ∀ x,(x,NameKind.free)∈names -> ∃ c,(x,c)∈cl
 | [],cs,_=>⟨cs,rfl,fun _ _ h=>.inl h,fun x c h=>⟨c,h⟩,fun _ h=>nomatch h⟩
 | (n,k) :: r,cs,h=>by
  have hr:∀ m,(m,NameKind.free)∈r -> ∃ c,env.cells.lookup m=some c:=fun m hm=>h m (List.mem_cons_of_mem _ hm)
  by_cases hk:k=NameKind.free
  ·subst hk
   obtain ⟨c,hc⟩:=h n List.mem_cons_self
   obtain ⟨cl,e,a,b,d⟩:=qe r ((n,c) :: cs) hr
   refine ⟨cl,?_,fun x c' hx=>?_,fun x c' hx=>b x c' (List.mem_cons_of_mem _ hx),fun x hx=>?_⟩
   ·rw [List.forIn_cons]
    simp only [beq_self_eq_true,if_true,cellOf,hc,pure_bind]
    exact e
   ·rcases a x c' hx with z | z
    ·rcases List.mem_cons.mp z with z | z
     ·cases z;exact .inr hc
     ·exact .inl z
    ·exact .inr z
   ·rcases List.mem_cons.mp hx with z | z
    ·cases z;exact b n c List.mem_cons_self
    ·exact d x z
  ·obtain ⟨cl,e,a,b,d⟩:=qe r cs hr
   have hb:(k==NameKind.free)=false:=by simpa using hk
   refine ⟨cl,?_,a,b,fun x hx=>?_⟩
   ·rw [List.forIn_cons]
    simp only [hb,Bool.false_eq_true,if_false,pure_bind]
    exact e
   ·rcases List.mem_cons.mp hx with z | z
    ·cases z;exact absurd rfl hk
    ·exact d x z
theorem nR {β : Type}:∀ {l:List (Str × β)} {x:Str} {c : β},(x,c)∈l -> ∃ c',l.lookup x=some c'
 | (n,d) :: r,x,c,h=>by
  rw [List.lookup_cons]
  cases e:x==n with
  | true=>exact ⟨d,rfl⟩
  | false=>
   rcases List.mem_cons.mp h with z | z
   ·cases z;simp at e
   ·exact nR z
theorem pY {scope:Scope} {env:Env} (h:∀ n,(n,NameKind.free)∈scope.names -> ∃ c,env.cells.lookup n=some c) :
  ∃ cl,closureFor scope env=pure cl∧(∀ x c,(x,c)∈cl->env.cells.lookup x=some c) ∧ ∀ x,(x,NameKind.free)∈scope.names -> ∃ c,cl.lookup x=some c:=by
 obtain ⟨cl,e,a,_,d⟩:=qe scope.names [] h
 refine ⟨cl,?_,fun x c hx=>?_,fun x hx=>?_⟩
 ·unfold closureFor
  exact (congrArg (fun m=>m >>= fun r=>pure r) e).trans (pure_bind _ _)
 ·rcases a x c hx with z | z
  ·cases z
  ·exact z
 ·obtain ⟨c,hc⟩:=d x hx
  exact nR hc
theorem gr:∀ (names:List (Str×NameKind)) (n:Nat) (acc:List (Str×Addr)) (x:Str) (c:Addr),(cellsFrom n names acc).lookup x=some c ->
  (acc.lookup x=some c∧(x,NameKind.cell) ∉ names)∨(n<=c∧(x,NameKind.cell)∈names)
 | [],n,acc,x,c,h=>.inl ⟨h,by simp⟩
 | (y,k) :: r,n,acc,x,c,h=>by
  unfold cellsFrom at h
  split at h
  ·rename_i hk
   have hk':k=NameKind.cell:=by simpa using hk
   rcases gr r (n+1) ((y,n) :: acc) x c h with ⟨h1,h2⟩ | ⟨h1,h2⟩
   ·rw [List.lookup_cons] at h1
    cases e:x==y with
    | true=>
     rw [e] at h1
     cases h1
     exact .inr ⟨Nat.le_refl _,by rw [beq_iff_eq.mp e,hk'];exact List.mem_cons_self⟩
    | false=>
     rw [e] at h1
     refine .inl ⟨h1,fun m=>?_⟩
     rcases List.mem_cons.mp m with z | z
     ·cases z;simp at e
     ·exact h2 z
   ·exact .inr ⟨by omega,List.mem_cons_of_mem _ h2⟩
  ·rename_i hk
   rcases gr r n acc x c h with ⟨h1,h2⟩ | ⟨h1,h2⟩
   ·refine .inl ⟨h1,fun m=>?_⟩
    rcases List.mem_cons.mp m with z | z
    ·cases z;simp at hk
    ·exact h2 z
   ·exact .inr ⟨h1,List.mem_cons_of_mem _ h2⟩
theorem lJ {lo:Nat}:∀ (names:List (Str×NameKind)) (n:Nat) (acc:List (Str×Addr)),lo<=n->(∀ z∈acc,lo<=z.2->z.2<n)->(∀ z∈acc,∀ z'∈acc,lo<=z.2->z.2=z'.2->z.1=z'.1) ->
  ∀ z∈cellsFrom n names acc,∀ z'∈cellsFrom n names acc,lo<=z.2->z.2=z'.2->z.1=z'.1
 | [],n,acc,_,_,h=>h
 | (y,k) :: r,n,acc,hn,h1,h2=>by
  unfold cellsFrom
  split
  ·refine lJ r (n+1) ((y,n) :: acc) (by omega) (fun z hz hl=>?_) fun z hz z' hz' hl e=>?_
   ·rcases List.mem_cons.mp hz with e | hz
    ·rw [e];exact Nat.lt_succ_self _
    ·exact Nat.lt_succ_of_lt (h1 z hz hl)
   ·rcases List.mem_cons.mp hz with e1 | hz
    ·rcases List.mem_cons.mp hz' with e2 | hz'
     ·rw [e1,e2]
     ·have:=h1 z' hz' (by rw [← e];exact hl)
      rw [← e,e1] at this
      exact absurd this (Nat.lt_irrefl _)
    ·rcases List.mem_cons.mp hz' with e2 | hz'
     ·have:=h1 z hz hl
      rw [e,e2] at this
      exact absurd this (Nat.lt_irrefl _)
     ·exact h2 z hz z' hz' hl e
  ·exact lJ r n acc hn h1 h2
theorem lK:∀ (names:List (Str×NameKind)) (h:Heap) (acc:List (Str×Addr)) (x:Str) (c:Addr),(x,c)∈cellsFrom h.objs.size names acc->(x,c)∈acc∨(pushCells h names).IsCell c none
 | [],h,acc,x,c,m=>.inl m
 | (y,k) :: r,h,acc,x,c,m=>by
  unfold cellsFrom at m
  unfold pushCells
  split at m
  ·rename_i hk
   rw [if_pos hk]
   have:=lK r (h.push { cls:=.type "cell",data:=.cell none }) ((y,h.objs.size) :: acc) x c (by rw [Heap.size_push];exact m)
   rcases this with z | z
   ·rcases List.mem_cons.mp z with e | z
    ·cases e
     exact .inr ⟨_,pushCells_keeps r _ _ _ (Heap.get?_push_size _ rfl),rfl⟩
    ·exact .inl z
   ·exact .inr z
  ·rename_i hk
   rw [if_neg hk]
   exact lK r h acc x c m
theorem gJ {α : Type}:∀ {l:List (Str × α)} {x:Str} {k : α},(l.map (·.1)).Nodup->(x,k)∈l->l.lookup x=some k
 | (y,k') :: r,x,k,nd,m=>by
  rw [List.map_cons] at nd
  obtain ⟨h1,h2⟩:=List.nodup_cons.mp nd
  rw [List.lookup_cons]
  rcases List.mem_cons.mp m with e | m
  ·cases e;simp
  ·have hne:(x==y)=false:=by
    cases e:x==y with
    | false=>rfl
    | true=>rw [beq_iff_eq.mp e] at m;exact absurd (List.mem_map.mpr ⟨_,m,rfl⟩) h1
   rw [hne];exact gJ h2 m
theorem qC {M:Model} {A:Around} {E:Value->Shared->Prop} {s:Shared} {scope:Scope} {globals:Addr} {closure:List (Str×Addr)} {qual:Str} {func:Option Addr} {code:Value} {env:Env} {builtins:Addr} {Q:Env->Shared->Prop}
  (hQ:Q (newEnv scope s.heap.objs.size globals (cellsFrom (s.heap.objs.size+1) scope.names closure) qual func code (some env) builtins) { s with heap:=pushCells (s.heap.push { cls:=.type "dict",data:=.dict #[] }) scope.names }) :
  wpAny M A (newFunctionEnv scope globals closure [] qual func code (some env) builtins) Q E s:=by
 simp only [newFunctionEnv,Option.isSome_some,if_true]
 refine wpAny_bind (wpAny_alloc ?_)
 refine wpAny_bind (wpAny_layCells _ (fun name kind cells=>by cases hkc:kind==NameKind.cell <;> simp [hkc]) _ _ _ _ ?_)
 rw [show ({ s with heap:=s.heap.push { cls:=.type "dict",data:=.dict #[] } }:Shared).heap.objs.size=s.heap.objs.size+1 from Heap.size_push ..]
 rw [List.forIn_nil]
 exact wpAny_bind (wpAny_pure (wpAny_pure hQ))
def uH (scope:Scope) (x:Str):Bool:=scope.names.any fun y=>y.1==x&&y.2==NameKind.cell
theorem CW {scope:Scope} {x:Str}:uH scope x=true↔(x,NameKind.cell)∈scope.names:=by
 unfold uH
 rw [List.any_eq_true]
 constructor
 ·rintro ⟨⟨n,k⟩,hm,h⟩
  rw [Bool.and_eq_true] at h
  obtain rfl:n=x:=beq_iff_eq.mp h.1
  obtain rfl:k=NameKind.cell:=by simpa using h.2
  exact hm
 ·intro hm
  exact ⟨_,hm,by simp⟩
abbrev Cx.comp (X:Cx) (scope:Scope) (N:List Str) (cl:List (Str×Addr)) (C:Addr) (fp:List Addr) (s₂ : Shared) (H₂ : Hp):Cx where
 prog:=X.prog
 w:=X.w
 K:=X.K
 mg:=X.mg
 base:=X.base
 A:=X.A
 N:=N
 s₀:=s₂
 H₀:=H₂
 env:=compEnvC scope cl C X.env
 outer:=X.stack
 stack:=X.stack
 ex:=fp
 fn:=uH scope
 calm:=X.calm
 pn:=[]
 xe:=fun _ _=>False
def dG (X:Cx) (own:List Str) (fr:List Nat):List Str:=own++fr.map fun j=>X.N.getD j ""
def jM (own:List Str) (fr:List Nat) (σ : St):St:=own.map (fun _=>none)++fr.map fun j=>(σ[j]?).getD none
structure CScope (X:Cx) (scope:Scope) (own:List Str) (fr:List Nat):Prop where
 kind:scope.kind = .function
 keys:(scope.names.map (·.1)).Nodup
 names:∀ y∈scope.names,y.2 = .local->scope.names.lookup y.1=some .local
 free:∀ n,(n,NameKind.free)∈scope.names->X.env.kindOf n=some .cell∨X.env.kindOf n=some .free
 frs:∀ j∈fr,j<X.N.length∧scope.names.lookup (X.N.getD j "")=some .free
 nd:(dG X own fr).Nodup
section
variable {X:Cx} {pins:List (Addr×Obj)} {σ : St} {H₂ : Hp} {s₂ : Shared} {scope:Scope} {own:List Str} {fr:List Nat} {cl:List (Str×Addr)} {fp:List Addr}
theorem wV {env:Env}:∀ {names:List (Str×NameKind)} {x:Str},
  ((names.map fun (n,k)=>if (k==NameKind.free&&env.scope.kind == .function&&env.kindOf n==some .cell) then (n,NameKind.cell) else (n,k)).lookup x=some .cell ∨
   (names.map fun (n,k)=>if (k==NameKind.free&&env.scope.kind == .function&&env.kindOf n==some .cell) then (n,NameKind.cell) else (n,k)).lookup x=some .free) ->
  (x,NameKind.free)∈names∨(x,NameKind.cell)∈names
 | [],x,h=>by simp at h
 | (n,k) :: r,x,h=>by
  have ih:=@wV env r x
  simp only [List.map_cons] at h
  by_cases hcond:(k==NameKind.free&&env.scope.kind == .function&&env.kindOf n==some .cell)=true
  ·have hk:k=NameKind.free:=by
    rw [Bool.and_eq_true,Bool.and_eq_true] at hcond
    exact beq_iff_eq.mp hcond.1.1
   rw [if_pos hcond] at h
   simp only [List.lookup_cons] at h
   cases e:x==n with
   | true=>rw [beq_iff_eq.mp e,hk];exact .inl List.mem_cons_self
   | false=>rw [e] at h;exact (ih h).imp (List.mem_cons_of_mem _) (List.mem_cons_of_mem _)
  ·rw [if_neg hcond] at h
   simp only [List.lookup_cons] at h
   cases e:x==n with
   | true=>
    rw [e] at h
    rcases h with h | h
    ·have:k = .cell:=Option.some.inj h
     rw [beq_iff_eq.mp e,this];exact .inr List.mem_cons_self
    ·have:k = .free:=Option.some.inj h
     rw [beq_iff_eq.mp e,this];exact .inl List.mem_cons_self
   | false=>rw [e] at h;exact (ih h).imp (List.mem_cons_of_mem _) (List.mem_cons_of_mem _)
theorem rA {env:Env}:∀ {names:List (Str×NameKind)} {x:Str},names.lookup x=some .free ->
  (names.map fun (n,k)=>if (k==NameKind.free&&env.scope.kind == .function&&env.kindOf n==some .cell) then (n,NameKind.cell) else (n,k)).lookup x=some .cell ∨
  (names.map fun (n,k)=>if (k==NameKind.free&&env.scope.kind == .function&&env.kindOf n==some .cell) then (n,NameKind.cell) else (n,k)).lookup x=some .free
 | [],x,h=>by simp at h
 | (n,k) :: r,x,h=>by
  have ih:=@rA env r x
  simp only [List.map_cons]
  by_cases hcond:(k==NameKind.free&&env.scope.kind == .function&&env.kindOf n==some .cell)=true
  ·rw [if_pos hcond]
   simp only [List.lookup_cons] at h ⊢
   cases e:x==n with
   | true=>exact .inl rfl
   | false=>rw [e] at h;exact ih h
  ·rw [if_neg hcond]
   simp only [List.lookup_cons] at h ⊢
   cases e:x==n with
   | true=>rw [e] at h;exact .inr h
   | false=>rw [e] at h;exact ih h
theorem HOk.adopt {P:Program} {w:World} {H:Hp} {h:Heap} {a:Addr} {o:HO} (x:HOk P w H h) (hn:H a=none) (new:fK P w (upd H a o) h a o):HOk P w (upd H a o) h:=fun b u e=>by
 by_cases hb:b=a
 ·subst hb
  rw [cW] at e
  cases e
  exact new
 ·rw [bJ hb] at e
  exact (x b u e).stay (fun c v _ q=>q) (fun c q=>(bJ (bW q hn)).trans q) fun c xs q=>(bJ (bW q hn)).trans q
structure CellsAt (X:Cx) (scope:Scope) (cs:List (Str×Addr)) (C:Addr):Prop where
 old:∀ x c,cs.lookup x=some c->X.env.cells.lookup x=some c∨C<c
 has:∀ x,((x,NameKind.free)∈scope.names∨(x,NameKind.cell)∈scope.names) -> ∃ c,cs.lookup x=some c
 fre:∀ x,(x,NameKind.free)∈scope.names -> ∃ c,cs.lookup x=some c∧X.env.cells.lookup x=some c
 cab:∀ x c,uH scope x=true->cs.lookup x=some c->C<c
 inj:∀ x y c,C<c->cs.lookup x=some c->cs.lookup y=some c->x=y
theorem Qc {C:Addr} (I:Inv X pins σ H₂ s₂) (S:CScope X scope own fr) (cs:CellsAt X scope cl C)
  (f:∀ b∈fp,rQ X pins H₂ b) (ho:∀ b∈fp,b<s₂.heap.objs.size) (hC:s₂.heap.objs.size<=C):(X.comp scope (dG X own fr) cl C fp s₂ H₂).Ok where
 mod:=I.ok.mod
 kind:=S.kind
 glob:=I.ok.glob
 blt:=I.ok.blt
 above:=hC
 inj:=fun x y c e1 e2=>by
  by_cases hc:C<c
  ·exact cs.inj x y c hc e1 e2
  ·exact I.ok.inj x y c ((cs.old x c e1).resolve_right hc) ((cs.old y c e2).resolve_right hc)
 has:=fun x hx=>cs.has x (wV hx)
 cab:=fun x c h e=>Nat.le_of_lt (Nat.lt_of_le_of_lt hC (cs.cab x c h e))
 hd:=I.ok.hd
 frames:=I.ok.frames
 stk:=.inl rfl
 exf:=fun b hb=>⟨Nat.ne_of_lt (Nat.lt_of_lt_of_le (ho b hb) hC),fun x c e=>by
  rcases cs.old x c e with z | z
  ·exact (f b hb).2.2.2.2.1 x c z
  ·exact Nat.ne_of_gt (Nat.lt_trans (Nat.lt_of_lt_of_le (ho b hb) hC) z)⟩
 bs:=I.bs
 bsz:=Nat.le_trans I.ok.bsz I.sz
 noex:=fun b o e hb=>by
  rcases (f b hb).2.2.2.1 with z | z
  ·exact I.ok.noex b o e z
  ·exact absurd (Nat.lt_of_lt_of_le (Heap.lt_size e) (Nat.le_trans I.ok.bsz z)) (Nat.lt_irrefl _)
 exfs:=fun b hb z=>(List.mem_cons.mp (I.stkSub b z)).elim (f b hb).2.1 (f b hb).2.2.1
 funs:=I.stack
 frf:=I.stkFree
theorem Eb {C:Addr} {h4:Heap} {tk:Nat} {m:Str->Option Value} (I:Inv X pins σ H₂ s₂) (S:CScope X scope own fr) (cs:CellsAt X scope cl C) (hnew:∀ x c,cl.lookup x=some c->C<c->h4.IsCell c none)
  (f:∀ b∈fp,rQ X pins H₂ b) (ho:∀ b∈fp,b<s₂.heap.objs.size) (hC:s₂.heap.objs.size<=C) (hn:h4.Ns C m) (old:∀ b o,s₂.heap.get? b=some o->h4.get? b=some o) :
  Inv (X.comp scope (dG X own fr) cl C fp s₂ H₂) [] (jM own fr σ) H₂ { s₂ with heap:=h4,toks:=tk } where
 ok:=Qc I S cs f ho hC
 os:=rfl
 bare:=I.bare
 base:=Un.kept old
 loc:=by
  refine ⟨m,hn,fun i x v e1 e2 e3=>?_⟩
  have e1':(own++fr.map fun j=>X.N.getD j "")[i]? = some x:=e1
  have e2':(own.map (fun _=>(none:Option V))++fr.map fun j=>(σ[j]?).getD none)[i]? = some (some v):=e2
  by_cases hi:i<own.length
  ·rw [List.getElem?_append_left (by simpa using hi),List.getElem?_map] at e2'
   cases q:own[i]? with
   | none=>rw [q] at e2';cases e2'
   | some y=>rw [q] at e2';cases e2'
  ·have hi':own.length<=i:=Nat.not_lt.mp hi
   rw [List.getElem?_append_right hi',List.getElem?_map] at e1'
   rw [List.getElem?_append_right (by simpa using hi'),List.getElem?_map,List.length_map] at e2'
   cases q:fr[i - own.length]? with
   | none=>rw [q] at e1';cases e1'
   | some j=>
    rw [q] at e1' e2'
    have hx:X.N.getD j "" = x:=Option.some.inj e1'
    have hv:(σ[j]?).getD none=some v:=Option.some.inj e2'
    obtain ⟨hj,hl⟩:=S.frs j (List.mem_of_getElem? q)
    have hN:X.N[j]? = some x:=by
     rw [← hx,List.getD_eq_getElem?_getD,List.getElem?_eq_getElem hj];rfl
    have hσ : σ[j]? = some (some v):=by
     cases z : σ[j]? with
     | none=>rw [z] at hv;cases hv
     | some w=>rw [z] at hv;rw [show w=some v from hv]
    rw [hx] at hl
    have hfree:=PySem.mem_of_lookup hl
    have hk:=S.free x hfree
    obtain ⟨m',hm',hl'⟩:=I.loc
    obtain ⟨u,ru,lk⟩:=hl' j x v hN hσ (.inr hk)
    refine ⟨u,ru,?_⟩
    rcases lk with ⟨k1,_⟩ | ⟨_,c,hc,o,hoc,hd⟩
    ·exfalso
     rcases hk with z | z
     ·rw [z] at k1;cases k1
     ·rw [z] at k1;cases k1
    ·obtain ⟨c',hc',this⟩:=cs.fre x hfree
     rw [hc] at this
     cases this
     exact .inr ⟨rA hl,c,hc',o,old _ _ hoc,hd⟩
 cell:=fun x c e=>by
  rcases cs.old x c e with z | z
  ·obtain ⟨v,o,hoc,hd⟩:=I.cell x c z
   exact ⟨v,o,old _ _ hoc,hd⟩
  ·exact ⟨none,hnew x c e z⟩
 free:=I.hok.fresh hC
 freeC:=fun x c e=>by
  rcases cs.old x c e with z | z
  ·exact I.freeC x c z
  ·exact I.hok.fresh (Nat.le_trans hC (Nat.le_of_lt z))
 pin:=fun p hp=>absurd (show p∈([]:List (Addr×Obj)) from hp) (by simp)
 hok:=I.hok.kept old
 len:=by
  show (own.map (fun _=>(none:Option V))++fr.map fun j=>(σ[j]?).getD none).length=(own++fr.map fun j=>X.N.getD j "").length
  simp
end
def PTs (X:Cx) (ifs:List Expr) (t:TT):Prop:=
 ∀ (pins:List (Addr×Obj)) (s:Shared) (σ : St) (H:Hp) (Q:Bool->Hp->Prop),Inv X pins σ H s->t σ H Q->wpAny (model X.prog X.w) X.A (Ih ifs X.env) (TP X pins σ Q) X.xe s
def Sh:TT:=fun _ H Q=>Q true H
theorem Rz {X:Cx}:PTs X [] Sh:=fun _ _ _ H _ I h=>wpAny_tests_nil ⟨H,I,h⟩
theorem RB {X:Cx} {c:Expr} {t:TT} (h:PT X c t):PTs X [c] t:=fun pins s σ H Q I q=>wpAny_tests_one (h pins s σ H Q I q)
section
variable {X:Cx} {pins:List (Addr×Obj)} {σ : St} {H₂ : Hp} {s₂ : Shared} {scope:Scope} {own:List Str} {fr:List Nat} {cl:List (Str×Addr)} {fp:List Addr}
 {tg elt iter:Expr} {ifs:List Expr} {pos:Pos} {J:It} {it:Addr} {tn:Nat->Heap->Prop} {g:TG} {tt:TT} {te:TE} {RR:Value->Addr->Result->Shared->Prop} {E:Value->Shared->Prop} {Fin:List V->Hp->Prop}
theorem yq (I2:Inv X pins σ H₂ s₂) (hc:X.calm=true) (S:CScope X scope own fr) (h1:∀ x c,(x,c)∈cl->X.env.cells.lookup x=some c) (h2:∀ x,(x,NameKind.free)∈scope.names -> ∃ c,cl.lookup x=some c)
  (T:Turn X.prog X.w X.K tg J fp it tn) (st2:tn 0 s₂.heap) (f2:∀ b∈fp,rQ X pins H₂ b)
  (hg:∀ cl C,PG (X.comp scope (dG X own fr) cl C fp s₂ H₂) tg g) (ht:∀ cl C,PTs (X.comp scope (dG X own fr) cl C fp s₂ H₂) ifs tt) (he:∀ cl C,PE (X.comp scope (dG X own fr) cl C fp s₂ H₂) elt te)
  (W:Nat->Nat->List V->St->Hp->Prop) (m0:Nat) (w0:W 0 m0 [] (jM own fr σ) H₂)
  (turn:∀ i m ys σ' H',W i m ys σ' H'->(J.stop i H'∧Fin ys H')∨(J.go i H'∧ys.length<sizeLine ∧ ∀ x H3,J.yld i H' x H3->g x σ' H3 fun σ4 H4=>tt σ4 H4 fun b H5=>
   if b=true then te σ4 H5 fun y H6=>∃ m',m'<m∧W (i+1) m' (ys++[y]) σ4 H6 else ∃ m',m'<m∧W (i+1) m' ys σ4 H5))
  (hR:∀ D C s' H' ys m,Inv X pins σ (upd H' D (.lst ys)) s'->s'.heap.Ns C m->rQ X pins (upd H' D (.lst ys)) C->H' D=none->Fin ys H'->RR (.ref D) C (.ok .next) s') :
  wpAny (model X.prog X.w) X.A (newList []) (fun acc s₃ => wpAny (model X.prog X.w) X.A (newFunctionEnv scope X.env.globals cl [] X.env.qual none .none (some X.env)) (fun cenv s₄ =>
   codeAny (model X.prog X.w) X.A (.compStart (.ListComp elt [⟨tg,iter,ifs,0⟩] scope pos) 0 (.ref it) acc { cenv with scope:=relabel scope X.env }) (RR acc cenv.locals) s₄) E s₃) E s₂:=by
 refine wpAny_newObj_type (qC ?_)
 dsimp only
 generalize eG:s₂.heap.push { cls:=.type "list",dict:=none,data:=.seq ([]:List Value).toArray }=G
 have sG:G.objs.size=s₂.heap.objs.size+1:=by rw [← eG,Heap.size_push]
 have hDC:s₂.heap.objs.size≠G.objs.size:=by rw [sG];exact Nat.ne_of_lt (Nat.lt_succ_self _)
 have hCle:s₂.heap.objs.size<=G.objs.size:=by rw [sG];exact Nat.le_succ _
 have neC:∀ b,b<s₂.heap.objs.size->b≠G.objs.size:=fun b hb=>Nat.ne_of_lt (Nat.lt_of_lt_of_le hb hCle)
 have cellLt:∀ x c,X.env.cells.lookup x=some c->c<s₂.heap.objs.size:=fun x c e=>let ⟨v,q⟩:=I2.cell x c e;q.lt
 have cs:CellsAt X scope (cellsFrom (G.objs.size+1) scope.names cl) G.objs.size:={
  old:=fun x c e=>by
   rcases gr _ _ _ x c e with ⟨z,_⟩ | ⟨z,_⟩
   ·exact .inl (h1 x c (PySem.mem_of_lookup z))
   ·exact .inr z
  has:=fun x hx=>by
   refine Option.isSome_iff_exists.mp (PySem.W.cellsFrom_some scope.names _ cl ?_)
   rcases hx with z | z
   ·obtain ⟨c,hc⟩:=h2 x z
    exact .inr (by rw [hc];rfl)
   ·exact .inl (gJ S.keys z)
  fre:=fun x hx=>by
   obtain ⟨c,hc⟩:=h2 x hx
   obtain ⟨c',hc'⟩:=Option.isSome_iff_exists.mp (PySem.W.cellsFrom_some scope.names (G.objs.size+1) cl (.inr (by rw [hc];rfl)) (x:=x))
   rcases gr _ _ _ x c' hc' with ⟨z,_⟩ | ⟨_,z⟩
   ·exact ⟨c',hc',h1 x c' (PySem.mem_of_lookup z)⟩
   ·have:=gJ S.keys z
    rw [gJ S.keys hx] at this
    cases this
  cab:=fun x c ho e=>by
   rcases gr _ _ _ x c e with ⟨_,z⟩ | ⟨z,_⟩
   ·exact absurd (CW.mp ho) z
   ·exact z
  inj:=fun x y c hc e1 e2=>by
   have low:∀ z∈cl,¬ G.objs.size+1<=z.2:=fun z hz hl=>by
    have:=cellLt z.1 z.2 (h1 z.1 z.2 hz)
    exact absurd (Nat.lt_of_lt_of_le this hCle) (Nat.not_lt.mpr (Nat.le_of_succ_le hl))
   exact lJ (lo:=G.objs.size+1) scope.names _ cl (Nat.le_refl _) (fun z hz hl=>absurd hl (low z hz)) (fun z hz z' _ hl _=>absurd hl (low z hz)) (x,c) (PySem.mem_of_lookup e1) (y,c) (PySem.mem_of_lookup e2) hc rfl }
 generalize e4:pushCells (G.push { cls:=.type "dict",data:=.dict #[] }) scope.names=h4
 have up:∀ b o,G.get? b=some o->h4.get? b=some o:=fun b o e=>by rw [← e4];exact pushCells_keeps _ _ _ _ (Heap.get?_push_of_some _ e)
 have hn4:h4.Ns G.objs.size (fun _=>none):=by rw [← e4];exact (Heap.Ns.new G (.type "dict")).keeps (pushCells_keeps _ _)
 have hnew:∀ x c,(cellsFrom (G.objs.size+1) scope.names cl).lookup x=some c->G.objs.size<c->h4.IsCell c none:=fun x c e hc=>by
  rcases lK scope.names (G.push { cls:=.type "dict",data:=.dict #[] }) cl x c (by rw [Heap.size_push];exact PySem.mem_of_lookup e) with z | z
  ·have:=cellLt x c (h1 x c z)
   exact absurd (Nat.lt_trans (Nat.lt_of_lt_of_le this hCle) hc) (Nat.lt_irrefl _)
  ·rw [← e4];exact z
 have old:∀ b o,s₂.heap.get? b=some o->h4.get? b=some o:=fun b o e=>up b o (by rw [← eG];exact Heap.get?_push_of_some _ e)
 have hD4:h4.get? s₂.heap.objs.size=some { cls:=.type "list",data:=.seq ([]:List Value).toArray 0 }:=up _ _ (by rw [← eG];exact Heap.get?_push_size _ rfl)
 generalize ecs:cellsFrom (G.objs.size+1) scope.names cl=cl' at cs hnew ⊢
 have ho:∀ b∈fp,b<s₂.heap.objs.size:=fun b hb=>let ⟨_,e,_⟩:=T.obj 0 _ st2 b hb;Heap.lt_size e
 have nD:s₂.heap.objs.size ∉ fp:=fun z=>Nat.lt_irrefl _ (ho _ z)
 have nf:∀ {b:Addr},s₂.heap.objs.size<=b->b ∉ frs X.stack:=fun {b} hb z=>by
  rcases List.mem_cons.mp (I2.stkSub b z) with e | e
  ·exact absurd (Nat.lt_of_lt_of_le I2.lt (by rw [← e];exact hb)) (Nat.lt_irrefl _)
  ·exact I2.nofs hb e
 have cellNe:∀ x c,cl'.lookup x=some c->c≠s₂.heap.objs.size:=fun x c e z=>by
  rcases cs.old x c e with q | q
  ·exact Nat.ne_of_lt (cellLt x c q) z
  ·exact Nat.lt_irrefl _ (Nat.lt_of_lt_of_le q (by rw [z];exact hCle))
 have stat:∀ {H':Hp} {o:Obj},(∀ b∈fp,H' b=none) -> ∀ b∈fp,rQ (X.comp scope (dG X own fr) cl' G.objs.size fp s₂ H₂) [(s₂.heap.objs.size,o)] H' b:=fun {H' o} hn b hb=>
  ⟨hn b hb,neC b (ho b hb),fun z=>(List.mem_cons.mp (I2.stkSub b z)).elim (f2 b hb).2.1 (f2 b hb).2.2.1,.inl hb,fun x c e=>(by
   rcases cs.old x c e with q | q
   ·exact (f2 b hb).2.2.2.2.1 x c q
   ·exact fun z=>Nat.lt_irrefl _ (Nat.lt_trans (Nat.lt_of_lt_of_le (ho b hb) hCle) (by rw [z] at q;exact q))),fun p hp z=>by
   have e:p=(s₂.heap.objs.size,o):=by simpa using hp
   subst e
   exact nD (by rw [show s₂.heap.objs.size=b from z];exact hb)⟩
 have I4:=Eb (cl:=cl') (tk:=s₂.toks) I2 S cs hnew f2 ho hCle hn4 old
 have loop:codeAny (model X.prog X.w) X.A (.compLoop (.ListComp elt [⟨tg,iter,ifs,0⟩] scope pos) 0 (.ref it) (.ref s₂.heap.objs.size) (compEnvC scope cl' G.objs.size X.env)) (RR (.ref s₂.heap.objs.size) G.objs.size)
   { s₂ with heap:=h4,toks:=s₂.toks }:=by
  refine Be (fun n s'=>∃ i ys its k σ' H',Inv (X.comp scope (dG X own fr) cl' G.objs.size fp s₂ H₂) [] σ' H' s'∧tn i s'.heap∧(∀ b∈fp,H' b=none) ∧
   s'.heap.get? s₂.heap.objs.size=some { cls:=.type "list",data:=.seq (its:List Value).toArray k }∧Vals ys its∧H' s₂.heap.objs.size=none∧ys.length<=sizeLine∧W i n ys σ' H') ?_ m0
   ⟨0,[],[],0,jM own fr σ,H₂,I4,T.keep _ _ _ st2 (fun b _ o e=>old b o e),fun b hb=>(f2 b hb).1,hD4,.nil,I2.hok.fresh (Nat.le_refl _),Nat.zero_le _,w0⟩
  rintro n s5 ⟨i,ys,its,k,σ5,H5,I5,st5,fr5,hD5,rv5,hn5,hz5,w5⟩
  have pinD:Inv (X.comp scope (dG X own fr) cl' G.objs.size fp s₂ H₂) [(s₂.heap.objs.size,{ cls:=.type "list",data:=.seq its.toArray k })] σ5 H5 s5:=I5.pins_of fun p hp=>by
   have e:p=(s₂.heap.objs.size,{ cls:=.type "list",data:=.seq its.toArray k }):=by simpa using hp
   subst e
   exact ⟨hD5,hn5,hDC,nf (Nat.le_refl _),fun v z=>nomatch z⟩
  rcases turn i n ys σ5 H5 w5 with ⟨stop,fin⟩ | ⟨go,hzl,step⟩
  ·refine thn (T.done (X.comp scope (dG X own fr) cl' G.objs.size fp s₂ H₂) rfl rfl rfl hc i _ s5 σ5 H5 (fun _ _=>False) pinD (stat fr5) st5 stop) fun r s6 ⟨hr,I6⟩=>?_
   subst hr
   have hD6:=(I6.pin _ (List.mem_append_right _ List.mem_cons_self)).1
   obtain ⟨m6,hn6,_⟩:=I6.loc
   have hk6:HOk X.prog X.w (upd H5 s₂.heap.objs.size (.lst ys)) s6.heap:=I6.hok.adopt hn5 ⟨hz5,its,k,rv5,hD6⟩
   have bne:∀ b o,s₂.heap.get? b=some o->b≠s₂.heap.objs.size:=fun b o e=>Nat.ne_of_lt (Heap.lt_size e)
   have tne:∀ b o,H5 b=some o->b≠s₂.heap.objs.size:=fun b o e=>bW e hn5
   have un6:Un (frs X.stack) fp H₂ (upd H5 s₂.heap.objs.size (.lst ys)) s₂.heap s6.heap:=
    ⟨I6.base.keep,I6.base.slot,fun b o e n hx=>by rw [bJ (bne b o e)];exact I6.base.free b o e n hx,I6.base.there,
     fun b xs e=>by have z:=I6.base.tups b xs e;rw [bJ (tne b _ z)];exact z,fun b o u e=>by have z:=I6.base.frzs b o u e;rw [bJ (tne b _ z)];exact z,
     fun b ps e=>by obtain ⟨mo,z⟩:=I6.base.tbls b ps e;exact ⟨mo,by rw [bJ (tne b _ z)];exact z⟩⟩
   have J6:Inv X pins σ (upd H5 s₂.heap.objs.size (.lst ys)) s6:=I2.call' I6.os un6 hk6 I6.bare fun b hb=>⟨(f2 b hb).2.2.2.1,(f2 b hb).2.1,(f2 b hb).2.2.2.2.1,(f2 b hb).2.2.2.2.2⟩
   refine hR _ _ s6 H5 ys m6 J6 hn6 ⟨?_,?_,?_,?_,?_,?_⟩ hn5 fin
   ·rw [bJ (Ne.symm hDC)];exact I6.free
   ·exact Ne.symm (neC _ I2.lt)
   ·exact I2.nofs hCle
   ·exact .inr (Nat.le_trans I2.sz hCle)
   ·intro x c e z
    obtain ⟨v,q⟩:=I2.cell x c e
    exact absurd (Nat.lt_of_lt_of_le q.lt (by rw [z];exact hCle)) (Nat.lt_irrefl _)
   ·intro p hp z
    exact absurd (Nat.lt_of_lt_of_le (Heap.lt_size (I2.pin p hp).1) (by rw [z];exact hCle)) (Nat.lt_irrefl _)
  ·refine thn (T.item (X.comp scope (dG X own fr) cl' G.objs.size fp s₂ H₂) rfl rfl rfl hc i _ s5 σ5 H5 (fun _ _=>False) pinD (stat fr5) st5 go) fun r s6 ⟨u,hr,h6⟩=>?_
   subst hr
   refine thn h6 fun _ s7 ⟨x,H7,I7,r7,y7,st7,fr7⟩=>?_
   have I7':=I7.pinned (stat fr7) (T.obj _ _ st7)
   refine thn (hg _ _ _ s7 σ5 H7 x u _ I7' r7 (step x H7 y7)) fun _ s8 ⟨σ8,H8,I8,q8⟩=>?_
   refine thn (ht _ _ _ s8 σ8 H8 _ I8 q8) fun ok s9 ⟨H9,I9,q9⟩=>?_
   have kept:∀ {s':Shared} {σ':St} {H':Hp},Inv (X.comp scope (dG X own fr) cl' G.objs.size fp s₂ H₂) ([(s₂.heap.objs.size,{ cls:=.type "list",data:=.seq its.toArray k })]++wQ fp s7.heap) σ' H' s' ->
     tn (i+1) s'.heap∧(∀ b∈fp,H' b=none)∧s'.heap.get? s₂.heap.objs.size=some { cls:=.type "list",data:=.seq its.toArray k }∧H' s₂.heap.objs.size=none:=fun {s' σ' H'} Z=>by
    have zD:=Z.pin (s₂.heap.objs.size,{ cls:=.type "list",data:=.seq its.toArray k }) (List.mem_append_right _ (List.mem_append_left _ List.mem_cons_self))
    refine ⟨T.keep _ _ _ st7 fun b hb o e=>(Z.pin (b,o) (List.mem_append_right _ (List.mem_append_right _ (nj hb e)))).1,fun b hb=>?_,zD.1,zD.2.1⟩
    obtain ⟨o,e,_⟩:=T.obj _ _ st7 b hb
    exact (Z.pin (b,o) (List.mem_append_right _ (List.mem_append_right _ (nj hb e)))).2.1
   cases ok with
   | false=>
    obtain ⟨m',hm',w9⟩:=q9
    obtain ⟨z1,z2,z3,z4⟩:=kept I9
    exact ⟨m',hm',i+1,ys,its,k,σ8,H9,I9.pins_of (fun p hp=>nomatch hp),z1,z2,z3,rv5,z4,hz5,w9⟩
   | true=>
    refine thn (he _ _ _ s9 σ8 H9 _ I9 q9) fun v sa ⟨y,Ha,Ia,ra,m',hm',wa⟩=>?_
    obtain ⟨z1,z2,z3,z4⟩:=kept Ia
    refine append_at (hsz:=by show its.toArray.size<=sizeLine;rw [List.size_toArray,← rv5.length];exact hz5) z3 fun hb sbb hDb=>?_
    have Ib:Inv (X.comp scope (dG X own fr) cl' G.objs.size fp s₂ H₂) [] σ8 Ha { sa with heap:=hb }:=
     (Ia.pins_of (pins':=[]) fun p hp=>nomatch hp).turned (t':=sa.toks) (it:=s₂.heap.objs.size) (fun b o hne e=>(sbb.2 b hne).trans e) z4 hDC (.inr (Nat.le_refl _)) cellNe fun p hp=>nomatch hp
    refine ⟨m',hm',i+1,ys++[y],its++[v],k+1,σ8,Ha,Ib,T.keep _ _ _ z1 fun b hb' o e=>(sbb.2 b fun q=>nD (by rw [← q];exact hb')).trans e,z2,?_,rv5.append (.cons ra .nil),z4,by rw [List.length_append];exact hzl,wa⟩
    rw [← List.push_toArray];exact hDb
 exact codeAny_compStart_list loop (T.self _ 0 _ _ _ (T.keep _ _ _ st2 fun b _ o e=>old b o e) loop)
end
end L2
namespace L2
open PySem PySem.Spec PyProof.Rows
def SQ (J:It) (own:List Str) (fr:List Nat) (σ : St) (g:TG) (tt:TT) (te:TE) (Q:VK) (H1:Hp):Prop:=∃ W:Nat->Nat->List V->St->Hp->Prop,
 (∃ m,W 0 m [] (jM own fr σ) H1) ∧ ∀ i m ys σ' H',W i m ys σ' H'->(J.stop i H' ∧ ∀ p,H' p=none->Q (.ref p) (upd H' p (.lst ys))) ∨
  (J.go i H'∧ys.length<sizeLine ∧ ∀ x H3,J.yld i H' x H3->g x σ' H3 fun σ4 H4=>tt σ4 H4 fun b H5=>
   if b=true then te σ4 H5 fun y H6=>∃ m',m'<m∧W (i+1) m' (ys++[y]) σ4 H6 else ∃ m',m'<m∧W (i+1) m' ys σ4 H5)
def Ov (wi:TI) (own:List Str) (fr:List Nat) (g:TG) (tt:TT) (te:TE):TE:=fun σ H Q=>wi σ H fun J H1=>SQ J own fr σ g tt te Q H1
section
variable {X:Cx} {scope:Scope} {own:List Str} {fr:List Nat} {tg elt iter:Expr} {ifs:List Expr} {pos:Pos} {wi:TI} {g:TG} {tt:TT} {te:TE}
theorem Rm (hc:X.calm=true) (hi:PI X tg iter wi) (S:CScope X scope own fr) (hg:∀ cl C fp s₂ H₂,PG (X.comp scope (dG X own fr) cl C fp s₂ H₂) tg g)
  (ht:∀ cl C fp s₂ H₂,PTs (X.comp scope (dG X own fr) cl C fp s₂ H₂) ifs tt) (he:∀ cl C fp s₂ H₂,PE (X.comp scope (dG X own fr) cl C fp s₂ H₂) elt te)
  (hs:∀ x,foldedSetIterable iter X.env x=pure x:=by intro _;rfl):PE X (.ListComp elt [⟨tg,iter,ifs,0⟩] scope pos) (Ov wi own fr g tt te):=by
 intro pins s σ H Q I h
 obtain ⟨cl,hcl,h1,h2⟩:=pY (scope:=scope) (env:=X.env) fun n hn=>I.ok.has n (S.free n hn)
 rw [eval_ListComp]
 refine wpAny_comprehension_free (use:=none) rfl hs hcl S.kind S.names (thn (hi pins s σ H _ I h) fun v s1 q1=>thn q1 fun itv s2 q2=>?_)
 obtain ⟨it,fp,tn,J,H2,e,I2,T,st2,f2,W,⟨m0,w0⟩,turn⟩:=q2
 subst e
 refine yq (RR:=fun acc C=>compPost (model X.prog X.w) X.A X.xe none (EP X pins σ Q) acc C) (Fin:=fun ys H'=>∀ p,H' p=none->Q (.ref p) (upd H' p (.lst ys)))
  I2 hc S h1 h2 T st2 f2 (fun cl C=>hg cl C fp s2 H2) (fun cl C=>ht cl C fp s2 H2) (fun cl C=>he cl C fp s2 H2) W m0 w0 turn ?_
 intro D C s' H' ys m J' hn fC hD fin
 exact ⟨m,hn,fun h' sb=>⟨.ref D,_,J'.turned (t':=s'.toks) (it:=C) (fun b o hne e=>(sb.2 b hne).trans e) fC.1 fC.2.1 fC.2.2.2.1 fC.2.2.2.2.1 fC.2.2.2.2.2,rfl,fin D hD⟩⟩
theorem Ru {i:Nat} {y:Str} {py spos:Pos} (hN:X.N.Nodup) (hi:X.N[i]? = some y) (hx:Loc X.env.scope y) (hc:X.calm=true) (hit:PI X tg iter wi) (S:CScope X scope own fr)
  (hg:∀ cl C fp s₂ H₂,PG (X.comp scope (dG X own fr) cl C fp s₂ H₂) tg g) (ht:∀ cl C fp s₂ H₂,PTs (X.comp scope (dG X own fr) cl C fp s₂ H₂) ifs tt) (he:∀ cl C fp s₂ H₂,PE (X.comp scope (dG X own fr) cl C fp s₂ H₂) elt te)
  (hsw:swapsWith (.ListComp elt [⟨tg,iter,ifs,0⟩] scope pos) (some (.Name y py)) spos.line X.env=pure true:=by rfl)
  (hs:∀ x,foldedSetIterable iter X.env x=pure x:=by intro _;rfl) (hf:X.fn y=true∨X.env.scope.names.lookup y=some .local:=by first | exact .inl rfl | exact .inr rfl | assumption) :
  PS X (.Assign [.Name y py] (.ListComp elt [⟨tg,iter,ifs,0⟩] scope pos) spos) (Ww (Ov wi own fr g tt te) (Lw i)):=by
 intro pins s σ H D I h
 obtain ⟨cl,hcl,h1,h2⟩:=pY (scope:=scope) (env:=X.env) fun n hn=>I.ok.has n (S.free n hn)
 rw [exec_Assign_Name_used _ _ _ _ hsw]
 refine wpAny_bind (wpAny_standAt (wpAny_bind ?_))
 show wpAny _ X.A (do let _ ← comprehension (.ListComp elt [⟨tg,iter,ifs,0⟩] scope pos) scope X.env _ (newList []) false (eval iter X.env) (some (assign (.Name y py) X.env))) _ _ s
 refine wpAny_bind (wpAny_mono (wpAny_comprehension_free (use:=some (assign (.Name y py) X.env)) (Q:=fun _ s'=>SP X pins D .next s') rfl hs hcl S.kind S.names
  (thn (hit pins s σ H _ I h) fun v s1 q1=>thn q1 fun itv s2 q2=>?_)) (fun _ s' q=>wpAny_pure (wpAny_pure q)) fun _ _ z=>z)
 obtain ⟨it,fp,tn,J,H2,e,I2,T,st2,f2,W,⟨m0,w0⟩,turn⟩:=q2
 subst e
 refine yq (RR:=fun acc C=>compPost (model X.prog X.w) X.A X.xe (some (assign (.Name y py) X.env)) (fun _ s'=>SP X pins D .next s') acc C)
  (Fin:=fun ys H'=>∀ p,H' p=none->D.nx (σ.set i (some (.ref p))) (upd H' p (.lst ys)))
  I2 hc S h1 h2 T st2 f2 (fun cl C=>hg cl C fp s2 H2) (fun cl C=>ht cl C fp s2 H2) (fun cl C=>he cl C fp s2 H2) W m0 w0 turn ?_
 intro B C s' H' ys m J' hn fC hB fin
 refine wpAny_assign_Name (yN (v:=.ref B) J' hN hi hx rfl (fun s'' I'' sb=>?_) hf)
 obtain ⟨a,sba,ha⟩:=sb
 have nca:C≠a:=by
  rcases ha with z | z
  ·rw [z];exact fC.2.1
  ·exact Ne.symm (fC.2.2.2.2.1 _ a z)
 exact ⟨m,hn.sameBut sba nca,fun h' sb'=>⟨_,_,I''.turned (t':=s''.toks) (it:=C) (fun b o hne e=>(sb'.2 b hne).trans e) fC.1 fC.2.1 fC.2.2.2.1 fC.2.2.2.2.1 fC.2.2.2.2.2,fin B hB⟩⟩
end
section
variable {own:List Str} {fr:List Nat} {g:TG} {te:TE} {σ : St} {Q:VK}
end
section
variable {X:Cx} (K:PySem.W.Frag) (e:X.K=K)
include e
end
def Known (K:PySem.W.Frag) (mg:Str->Option Value) (x:Str) (st:Stmt) (ps:List Str):Prop:=∃ f fd,Fun K x x st f fd∧Binds K fd ps []∧mg x=some (.ref f)
def Prm (P:Program) (w:World) (K:PySem.W.Frag) (mg:Str->Option Value) (base:Heap) (x:Str) (k:Nat) (ps:List Str) (sp:Sp):Prop:=
 ∃ f fd,FnOk P w K mg base CX0 k f fd ps sp∧Binds K fd ps []∧mg x=some (.ref f)∧PySem.W.keepIn K (.ref f)=true
section
variable {P:Program} {w:World} {K:PySem.W.Frag} {mg:Str->Option Value} {base:Heap}
theorem Known.ok {x:Str} {st:Stmt} {ps N:List Str} {k:Nat} {sp:Sp} (h:Known K mg x st ps) (S:FnScope N ps (aL st)) (len:∀ vs H Q E,sp vs H Q E->vs.length=ps.length)
  (hbody:∀ (cdv:Value) (f:Addr) (A:Around) (outer:List Env) (s:Shared) (H:Hp) (vs:List V) (Q:VK) (E:XK),Room k (A.deeper (envOfC x (aL st) s.heap.objs.size f cdv))->sp vs H Q E ->
   ∃ t,PSs (ul CX0 P w K mg base N x (aL st) f cdv A outer s H E).nox (gF st) t∧t { nx:=fun _ H'=>Q .non H',rt:=Q } (start N vs) H):Prm P w K mg base x (k+1) ps sp:=by
 obtain ⟨f,fd,F,b,g⟩:=h
 exact ⟨f,fd,F.ok S len fun cdv A outer s H vs Q E hr hs=>hbody cdv f A outer s H vs Q E hr hs,b,g,F.kp⟩
theorem bc {x:Str} {st:Stmt} {ps:List Str} {h:Heap} (X:K.In h) (G:h.Ns mainGlobals mg) {f:Addr} {oc:Value} {od an:Option Addr} {osl:Array (Option Value)} {kV doc pm cdv ct:Value}
  (a:PySem.W.nsIn K mainGlobals x=some (some (.ref f))) (l:K.lookup f=some ⟨oc,od,.func (PySem.W.fnOf x x (jD st) (gF st) (aL st) .none kV doc pm an cdv ct),osl⟩)
  (c:PySem.W.codeIn K cdv x=true) (k:PySem.W.keepIn K (.ref f)=true)
  (hb:∀ (kV doc pm:Value) (an:Option Addr) (cdv ct:Value) (us:List Value),us.length=ps.length->bindArgs (PySem.W.fnOf x x (jD st) (gF st) (aL st) .none kV doc pm an cdv ct) ⟨us,[]⟩=pure (ps.zip us)):Known K mg x st ps:=
 ⟨f,_,Ej l c k,(Ej l c k).binds hb,PySem.W.mg_of X G a⟩
theorem Prm.mono {x:Str} {j k:Nat} {ps:List Str} {sp:Sp} (h:Prm P w K mg base x j ps sp) (hk:j<=k):Prm P w K mg base x k ps sp:=by
 obtain ⟨f,fd,F,r⟩:=h
 exact ⟨f,fd,F.mono hk,r⟩
end
theorem uh.upd {H:Hp} {a:Addr} {o:HO} (h:H a=none):uh H (upd H a o):=fun b u e=>by
 rw [bJ (bW e h)];exact e
end L2
namespace L2
open PySem PySem.Spec PyProof.Rows
def Itz (K:PySem.W.Frag) (a b:Addr):It:=
 ⟨fun i H=>∃ xs ys x y,SqL K H a xs∧SqL K H b ys∧xs[i]? = some x∧ys[i]? = some y,
  fun i H v H'=>∃ p x y,H p=none∧v = .ref p∧H'=upd H p (.tup [x,y])∧(∀ xs,SqL K H a xs->xs[i]? = some x) ∧ ∀ ys,SqL K H b ys->ys[i]? = some y,
  fun i H=>∃ xs ys,SqL K H a xs∧SqL K H b ys∧(xs.length<=i∨ys.length<=i)⟩
section
variable {X:Cx} {pins:List (Addr×Obj)} {σ : St} {H:Hp} {s:Shared}
theorem Inv.turnedAll {fp:List Addr} {h':Heap} {t':Nat} (I:Inv X pins σ H s) (hf:∀ b∈fp,rQ X pins H b) (k:∀ b o,b ∉ fp->s.heap.get? b=some o->h'.get? b=some o):Inv X pins σ H { s with heap:=h',toks:=t' }:=by
 have nfp:∀ b u,H b=some u->b ∉ fp:=fun b u e z=>by have:=(hf b z).1;rw [e] at this;cases this
 refine I.step (g':=s.gens) (d':=s.drawn) (ch:=fp) (fun b hb=>⟨(hf b hb).2.2.2.1,(hf b hb).2.1,(hf b hb).2.2.2.2.1,(hf b hb).2.2.2.2.2⟩) (fun b o _ _ hc e _=>k b o hc e) (fun b o _ _ hc e _=>⟨o.slots,k b o hc e⟩) (fun _ _ _ _ n=>n)
  (fun b o hc e=>⟨o,k b o hc e⟩) (fun _ _ e=>e) (fun _ _ _ e=>e) (fun b ps e=>⟨#[],by rw [e];simp⟩) (fun m hm=>?_) (fun b u e=>?_) I.bare
 ·obtain ⟨o,es,ep,ho,r⟩:=hm
  exact ⟨o,es,ep,k _ o (fun z=>(hf _ z).2.1 rfl) ho,r⟩
 ·refine (I.hok b u e).stay (fun c v hc q=>k c v ?_ q) (fun _ q=>q) fun _ _ q=>q
  rcases hc with z | z
  ·rw [z];exact nfp b u e
  ·exact nfp c _ z
theorem Inv.turnedTup {fp:List Addr} {h':Heap} {t':Nat} {T:Addr} {xs:List V} (I:Inv X pins σ H s) (hf:∀ b∈fp,rQ X pins H b) (k:∀ b o,b ∉ fp->s.heap.get? b=some o->h'.get? b=some o)
  (hT:s.heap.objs.size<=T) (new:fK X.prog X.w (upd H T (.tup xs)) h' T (.tup xs)):Inv X pins σ (upd H T (.tup xs)) { s with heap:=h',toks:=t' }:=by
 have hn:=I.hok.fresh hT
 have nfp:∀ b u,H b=some u->b ∉ fp:=fun b u e z=>by have:=(hf b z).1;rw [e] at this;cases this
 have neT:∀ b o,s.heap.get? b=some o->b≠T:=fun b o e=>Nat.ne_of_lt (Nat.lt_of_lt_of_le (Heap.lt_size e) hT)
 have hk:HOk X.prog X.w H h':=fun b u e=>by
  refine (I.hok b u e).stay (fun c v hc q=>k c v ?_ q) (fun _ q=>q) fun _ _ q=>q
  rcases hc with z | z
  ·rw [z];exact nfp b u e
  ·exact nfp c _ z
 refine I.step (g':=s.gens) (d':=s.drawn) (ch:=fp) (fun b hb=>⟨(hf b hb).2.2.2.1,(hf b hb).2.1,(hf b hb).2.2.2.2.1,(hf b hb).2.2.2.2.2⟩) (fun b o _ _ hc e _=>k b o hc e) (fun b o _ _ hc e _=>⟨o.slots,k b o hc e⟩)
  (fun b o _ e n=>by rw [bJ (neT b o e)];exact n)
  (fun b o hc e=>⟨o,k b o hc e⟩) (fun b ys e=>by rw [bJ (bW e hn)];exact e) (fun b o u e=>by rw [bJ (bW e hn)];exact e) (fun b ps e=>⟨#[],by rw [bJ (bW e hn),e];simp⟩) (fun m hm=>?_) (hk.adopt hn new) I.bare
 obtain ⟨o,es,ep,ho,r⟩:=hm
 exact ⟨o,es,ep,k _ o (fun z=>(hf _ z).2.1 rfl) ho,r⟩
end
theorem oM {h:Heap} {l b:Addr} {its:Array Value} {o:Obj} (p:h.IsList l its) (e:h.get? b=some o) (hc:o.cls ≠ .type "list"):l≠b:=by
 rintro rfl
 obtain ⟨o',e',c',_⟩:=p
 rw [e] at e'
 cases e'
 exact hc c'
def zFp (n:Addr):List Addr:=[n+4,n+2,n+3,n,n+1]
def zTn (n l1 l2:Addr) (i:Nat) (h:Heap):Prop:=IsZip h (n+4) (n+2) (n+3) .none∧IsPair h (n+2) (.ref n) (.ref (n+1))∧(∃ a b,IsPair h (n+3) a b)∧h.IsListIter n l1 i∧h.IsListIter (n+1) l2 i
theorem Px {h:Heap} {n l1 l2:Addr} {i:Nat} {xs ys:Array Value} (st:zTn n l1 l2 i h) (p1:h.IsList l1 xs) (p2:h.IsList l2 ys):ZipApart (n+4) (n+2) (n+3) n (n+1) l1 l2:=by
 obtain ⟨hz,hTI,⟨a,b,hTO⟩,⟨o1,e1,c1,_⟩,⟨o2,e2,c2,_⟩⟩:=st
 have d1:o1.cls ≠ .type "list":=by rw [c1];decide
 have d2:o2.cls ≠ .type "list":=by rw [c2];decide
 exact ⟨by simp,by simp,by simp,by simp,by simp,by simp,by simp,by simp,by simp,by simp,
  oM p1 hz (show Value.type "zip" ≠ .type "list" by decide),oM p1 hTO (show Value.type "tuple" ≠ .type "list" by decide),oM p1 e1 d1,oM p1 e2 d2,oM p2 hz (show Value.type "zip" ≠ .type "list" by decide),oM p2 hTO (show Value.type "tuple" ≠ .type "list" by decide),oM p2 e1 d1,oM p2 e2 d2⟩
theorem Pg {P:Program} {w:World} {K:PySem.W.Frag} {es:List Expr} {k:Nat} {pos:Pos} (n l1 l2:Addr):Turn P w K (.Tuple es k pos) (Itz K l1 l2) (zFp n) (n+4) (zTn n l1 l2) where
 mem:=by simp [zFp]
 obj:=fun i h st b hb=>by
  obtain ⟨hz,hTI,⟨a,c,hTO⟩,⟨o1,e1,c1,q1⟩,⟨o2,e2,c2,q2⟩⟩:=st
  simp only [zFp,List.mem_cons,List.not_mem_nil,or_false] at hb
  rcases hb with rfl | rfl | rfl | rfl | rfl
  ·exact ⟨_,hz,fun v z=>nomatch z⟩
  ·exact ⟨_,hTI,fun v z=>nomatch z⟩
  ·exact ⟨_,hTO,fun v z=>nomatch z⟩
  ·exact ⟨_,e1,fun v z=>by rw [q1] at z;cases z⟩
  ·exact ⟨_,e2,fun v z=>by rw [q2] at z;cases z⟩
 keep:=fun i h h' st kk=>by
  obtain ⟨hz,hTI,⟨a,c,hTO⟩,⟨o1,e1,q1⟩,⟨o2,e2,q2⟩⟩:=st
  exact ⟨kk _ (by simp [zFp]) _ hz,kk _ (by simp [zFp]) _ hTI,⟨a,c,kk _ (by simp [zFp]) _ hTO⟩,⟨o1,kk _ (by simp [zFp]) _ e1,q1⟩,⟨o2,kk _ (by simp [zFp]) _ e2,q2⟩⟩
 item:=by
  intro X hP hw hK hc i pins s σ H E I hf st hg
  subst hP hw hK
  obtain ⟨xs,ys,x,y,hq1,hq2,hx,hy⟩:=hg
  obtain ⟨is1,rv1,p1,_⟩:=I.list hq1
  obtain ⟨is2,rv2,p2,_⟩:=I.list hq2
  obtain ⟨u1,hu1,ru1⟩:=rv1.get hx
  obtain ⟨u2,hu2,ru2⟩:=rv2.get hy
  have D:=Px st p1.isList p2.isList
  obtain ⟨hz,hTI,⟨a,c,hTO⟩,h1,h2⟩:=id st
  have nT:s.heap.objs.size ∉ zFp n:=fun z=>by
   obtain ⟨o,e,_⟩:=(show ∃ o,s.heap.get? s.heap.objs.size=some o∧True from by
    simp only [zFp,List.mem_cons,List.not_mem_nil,or_false] at z
    obtain ⟨o1,e1,_⟩:=h1
    obtain ⟨o2,e2,_⟩:=h2
    rcases z with z | z | z | z | z <;> rw [z]
    ·exact ⟨_,hz,trivial⟩
    ·exact ⟨_,hTI,trivial⟩
    ·exact ⟨_,hTO,trivial⟩
    ·exact ⟨_,e1,trivial⟩
    ·exact ⟨_,e2,trivial⟩)
   exact Nat.lt_irrefl _ (Heap.lt_size e)
  refine wpAny_pyNext_zip_item D hz hTI hTO h1 h2 p1.isList p2.isList (by simpa using hu1) (by simpa using hu2) fun h' z1 z2 z3 z4 z5 z6 z7=>?_
  refine ⟨_,rfl,wpAny_letOwnedTupleGo_zip z1 fun h'' y1 sb=>?_⟩
  have kk:∀ b o,b ∉ zFp n->s.heap.get? b=some o->h''.get? b=some o:=fun b o hb e=>by
   simp only [zFp,List.mem_cons,List.not_mem_nil,or_false,not_or] at hb
   exact sb.extBut b o hb.1 (z7 b o hb.1 hb.2.2.1 hb.2.2.2.1 hb.2.2.2.2 e)
  have hT'':IsPair h'' s.heap.objs.size u1 u2:=sb.extBut _ _ (fun z=>nT (by rw [z];simp [zFp])) z5
  have hTI'':IsPair h'' (n+2) (.ref n) (.ref (n+1)):=sb.extBut _ _ (by simp) (z7 _ _ (by simp) (by simp) (by simp) (by simp) hTI)
  have new:fK X.prog X.w (upd H s.heap.objs.size (.tup [x,y])) h'' s.heap.objs.size (.tup [x,y]):=
   ⟨by show 2<=sizeLine;decide,[u1,u2],.cons ru1 (.cons ru2 .nil),_,hT'',rfl,_,rfl⟩
  have hn:=I.hok.fresh (Nat.le_refl s.heap.objs.size)
  refine ⟨.ref s.heap.objs.size,upd H s.heap.objs.size (.tup [x,y]),I.turnedTup (t':=s.toks) hf kk (Nat.le_refl _) new,rfl,⟨_,x,y,hn,rfl,rfl,fun zs hz'=>?_,fun zs hz'=>?_⟩,⟨y1,hTI'',⟨_,_,sb.extBut _ _ (by simp) z2⟩,?_,?_⟩,fun b hb=>?_⟩
  ·rw [I.list_inj hz' hq1];exact hx
  ·rw [I.list_inj hz' hq2];exact hy
  ·exact z3.extBut sb.extBut (by simp)
  ·exact z4.extBut sb.extBut (by simp)
  ·rw [bJ (fun z=>nT (by rw [← z];exact hb))];exact (hf b hb).1
 done:=by
  intro X hP hw hK hc i pins s σ H E I hf st hg
  subst hP hw hK
  obtain ⟨xs,ys,hq1,hq2,hx⟩:=hg
  obtain ⟨is1,rv1,p1,_⟩:=I.list hq1
  obtain ⟨is2,rv2,p2,_⟩:=I.list hq2
  have D:=Px st p1.isList p2.isList
  obtain ⟨hz,hTI,⟨a,c,hTO⟩,h1,h2⟩:=id st
  have l1:=rv1.length
  have l2:=rv2.length
  refine wpAny_pyNext_zip_end (I.ok.hd hc) D hz hTI hTO h1 h2 p1.isList p2.isList (hx.elim (fun z=>.inl (by simp;omega)) fun z=>.inr (by simp;omega)) fun h' kk=>⟨rfl,I.turnedAll (t':=s.toks) hf fun b o hb e=>?_⟩
  simp only [zFp,List.mem_cons,List.not_mem_nil,or_false,not_or] at hb
  exact kk b o hb.1 hb.2.2.1 hb.2.2.2.1 hb.2.2.2.2 e
 self:=fun A i s Q E st h=>wpAny_pyIter_zip st.1 h
def Zd (K:PySem.W.Frag) (ta:TA):TI:=fun σ H R=>ta σ H fun vs H1=>∃ a b,vs=[.ref a,.ref b]∧(∃ xs,SqL K H1 a xs)∧(∃ ys,SqL K H1 b ys)∧R (Itz K a b) H1
theorem VP {X:Cx} (K:PySem.W.Frag) (eK:X.K=K) {es:List Expr} {k:Nat} {tpos:Pos} {a b:Expr} {ta:TA} {p pos:Pos} (hg:Gl X "zip") (hm:X.mg "zip" = none) (ha:PA X [a,b] ta) (hs:starEach [a,b] X.env=[(false,eval a X.env),(false,eval b X.env)]:=by rfl) (hs2:starEach [b] X.env=[(false,eval b X.env)]:=by rfl) :
  PI X (.Tuple es k tpos) (.Call (.Name "zip" p) [a,b] [] pos) (Zd K ta):=by
 subst eK
 intro pins s σ H R I h
 refine Call_ (jx I hg hm boot_zip (PyProof.Rows.callWith_type1 (thn (ha pos pins s σ H _ I h) fun us s1 ⟨vs,H1,I1,r1,q1⟩=>?_) (by rw [hs,hs2]) (by rw [hs2];rfl)))
 obtain ⟨l1,l2,rfl,⟨xs,hx⟩,⟨ys,hy⟩,q⟩:=q1
 obtain ⟨u1,u2,rfl,ru1,ru2⟩:=vals2 r1
 cases (show u1=Value.ref l1 from ru1)
 cases (show u2=Value.ref l2 from ru2)
 obtain ⟨is1,rv1,p1,_⟩:=I1.list hx
 obtain ⟨is2,rv2,p2,_⟩:=I1.list hy
 refine call_zip_2 p1.isList p2.isList fun h' z1 z2 z3 z4 z5 z6 kk=>?_
 have I2:Inv X pins σ H1 { s1 with heap:=h' }:=I1.kept (t':=s1.toks) kk
 refine wpAny_pyIter_zip z1 ⟨_,zFp s1.heap.objs.size,_,_,H1,rfl,I2,Pg s1.heap.objs.size l1 l2,⟨z1,z2,⟨_,_,z3⟩,z4,z5⟩,fun b hb=>?_,q⟩
 have hb':s1.heap.objs.size<=b:=by
  simp only [zFp,List.mem_cons,List.not_mem_nil,or_false] at hb
  rcases hb with rfl | rfl | rfl | rfl | rfl <;> first | exact Nat.le_refl _ | exact Nat.le_add_right _ _
 exact I1.fpOk hb' (I1.hok.fresh hb')
def Ite (K:PySem.W.Frag) (a:Addr):It:=
 ⟨fun i H=>∃ xs x,SqL K H a xs∧xs[i]? = some x,fun i H v H'=>∃ p x,H p=none∧v = .ref p∧H'=upd H p (.tup [.int i,x]) ∧ ∀ xs,SqL K H a xs->xs[i]? = some x,fun i H=>∃ xs,SqL K H a xs∧xs.length<=i⟩
def eFp (n:Addr):List Addr:=[n+1,n]
def eTn (n l:Addr) (i:Nat) (h:Heap):Prop:=(∃ old,IsEnum h (n+1) n i old)∧h.IsListIter n l i
theorem JF {P:Program} {w:World} {K:PySem.W.Frag} {es:List Expr} {k:Nat} {pos:Pos} (n l:Addr):Turn P w K (.Tuple es k pos) (Ite K l) (eFp n) (n+1) (eTn n l) where
 mem:=by simp [eFp]
 obj:=fun i h st b hb=>by
  obtain ⟨⟨old,he⟩,⟨o1,e1,c1,q1⟩⟩:=st
  simp only [eFp,List.mem_cons,List.not_mem_nil,or_false] at hb
  rcases hb with rfl | rfl
  ·exact ⟨_,he,fun v z=>nomatch z⟩
  ·exact ⟨_,e1,fun v z=>by rw [q1] at z;cases z⟩
 keep:=fun i h h' st kk=>by
  obtain ⟨⟨old,he⟩,⟨o1,e1,q1⟩⟩:=st
  exact ⟨⟨old,kk _ (by simp [eFp]) _ he⟩,⟨o1,kk _ (by simp [eFp]) _ e1,q1⟩⟩
 item:=by
  intro X hP hw hK hc i pins s σ H E I hf st hg
  subst hP hw hK
  obtain ⟨xs,x,hq,hx⟩:=hg
  obtain ⟨its,rv,p,_⟩:=I.list hq
  obtain ⟨u,hu,ru⟩:=rv.get hx
  obtain ⟨⟨old,he⟩,h1⟩:=id st
  have nT:s.heap.objs.size ∉ eFp n:=fun z=>by
   obtain ⟨o,e,_⟩:=(show ∃ o,s.heap.get? s.heap.objs.size=some o∧True from by
    simp only [eFp,List.mem_cons,List.not_mem_nil,or_false] at z
    obtain ⟨o1,e1,_⟩:=h1
    rcases z with z | z <;> rw [z]
    ·exact ⟨_,he,trivial⟩
    ·exact ⟨_,e1,trivial⟩)
   exact Nat.lt_irrefl _ (Heap.lt_size e)
  refine wpAny_pyNext_enum_item he h1 p.isList (by simpa using hu) (by simp) fun h' z1 z2 z3 z4 z5=>?_
  refine ⟨_,rfl,wpAny_letOwnedTupleGo_enum (s:={ s with heap:=h',toks:=s.toks+1 }) z1 fun h'' y1 sb=>?_⟩
  have kk:∀ b o,b ∉ eFp n->s.heap.get? b=some o->h''.get? b=some o:=fun b o hb e=>by
   simp only [eFp,List.mem_cons,List.not_mem_nil,or_false,not_or] at hb
   exact sb.extBut b o hb.1 (z5 b o hb.1 hb.2 e)
  have hT'':h''.get? s.heap.objs.size=some { cls:=.type "tuple",data:=.seq #[.int i s.toks,u] }:=sb.extBut _ _ (fun z=>nT (by rw [z];simp [eFp])) z3
  have new:fK X.prog X.w (upd H s.heap.objs.size (.tup [.int i,x])) h'' s.heap.objs.size (.tup [.int i,x]):=
   ⟨by show 2<=sizeLine;decide,[.int i s.toks,u],.cons ⟨_,rfl⟩ (.cons ru .nil),_,hT'',rfl,_,rfl⟩
  have hn:=I.hok.fresh (Nat.le_refl s.heap.objs.size)
  refine ⟨.ref s.heap.objs.size,upd H s.heap.objs.size (.tup [.int i,x]),I.turnedTup (t':=s.toks+1) hf kk (Nat.le_refl _) new,rfl,⟨_,x,hn,rfl,rfl,fun zs hz'=>?_⟩,⟨⟨_,y1⟩,z2.extBut sb.extBut (by simp)⟩,fun b hb=>?_⟩
  ·rw [I.list_inj hz' hq];exact hx
  ·rw [bJ (fun z=>nT (by rw [← z];exact hb))];exact (hf b hb).1
 done:=by
  intro X hP hw hK hc i pins s σ H E I hf st hg
  subst hP hw hK
  obtain ⟨xs,hq,hx⟩:=hg
  obtain ⟨its,rv,p,_⟩:=I.list hq
  obtain ⟨⟨old,he⟩,h1⟩:=id st
  have l1:=rv.length
  refine wpAny_pyNext_enum_end (I.ok.hd hc) he h1 p.isList (by simp;omega) fun h' kk=>⟨rfl,I.turnedAll (t':=s.toks) hf fun b o hb e=>kk b o (fun z=>hb (by rw [z];simp [eFp])) e⟩
 self:=fun A i s Q E st h=>by obtain ⟨⟨old,he⟩,_⟩:=st;exact wpAny_pyIter_enum he h
def Xu (K:PySem.W.Frag) (ta:TA):TI:=fun σ H R=>ta σ H fun vs H1=>∃ a,vs=[.ref a]∧(∃ xs,SqL K H1 a xs)∧R (Ite K a) H1
theorem Rq {X:Cx} (K:PySem.W.Frag) (eK:X.K=K) {es:List Expr} {k:Nat} {tpos:Pos} {a:Expr} {ta:TA} {p pos:Pos} (hg:Gl X "enumerate") (hm:X.mg "enumerate" = none) (ha:PA X [a] ta) (hs:starEach [a] X.env=[(false,eval a X.env)]:=by rfl) :
  PI X (.Tuple es k tpos) (.Call (.Name "enumerate" p) [a] [] pos) (Xu K ta):=by
 subst eK
 intro pins s σ H R I h
 refine Call_ (jx I hg hm boot_enumerate (PyProof.Rows.callWith_type1 (thn (ha pos pins s σ H _ I h) fun us s1 ⟨vs,H1,I1,r1,q1⟩=>?_) hs rfl))
 obtain ⟨l,rfl,⟨xs,hx⟩,q⟩:=q1
 obtain ⟨u,rfl,ru⟩:=vals1 r1
 cases (show u=Value.ref l from ru)
 obtain ⟨its,rv,p1,_⟩:=I1.list hx
 refine call_enumerate_list p1.isList fun h' z1 z2 z3 kk=>?_
 have I2:Inv X pins σ H1 { s1 with heap:=h' }:=I1.kept (t':=s1.toks) kk
 refine wpAny_pyIter_enum z1 ⟨_,eFp s1.heap.objs.size,_,_,H1,rfl,I2,JF s1.heap.objs.size l,⟨⟨_,z1⟩,z2⟩,fun b hb=>?_,q⟩
 have hb':s1.heap.objs.size<=b:=by
  simp only [eFp,List.mem_cons,List.not_mem_nil,or_false] at hb
  rcases hb with rfl | rfl <;> first | exact Nat.le_refl _ | exact Nat.le_add_right _ _
 exact I1.fpOk hb' (I1.hok.fresh hb')
end L2
namespace L2
open PySem PySem.Spec PyProof.Rows
inductive D where
 | non | bl (b:Bool) | int (i:Int) | str (x:Str) | tup (ds:List D) | lst (o:Bool) (ds:List D)
 | scr (ns:List Int)
 | ty (n:String)
 | xc (x:Str) (a:Addr)
 | fn (x:Str)
mutual
def D.fz:D->D
 | .non=>.non
 | .bl b=>.bl b
 | .int i=>.int i
 | .str x=>.str x
 | .scr ns=>.scr ns
 | .ty n=>.ty n
 | .xc x a=>.xc x a
 | .fn x=>.fn x
 | .tup ds=>.tup (D.fzs ds)
 | .lst _ ds=>.lst false (D.fzs ds)
def D.fzs:List D->List D
 | []=>[]
 | d :: ds=>d.fz :: D.fzs ds
end
mutual
def D.clean:D->Bool
 | .non=>true
 | .bl _=>true
 | .int _=>true
 | .str _=>true
 | .scr _=>true
 | .ty _=>true
 | .xc _ _=>true
 | .fn _=>true
 | .tup ds=>D.cleans ds
 | .lst o ds=>o&&D.cleans ds
def D.cleans:List D->Bool
 | []=>true
 | d :: ds=>d.clean&&D.cleans ds
end
mutual
def D.dat:D->PyData
 | .non=>.none
 | .bl b=>.bool b
 | .int i=>.int i
 | .str x=>.str x
 | .scr ns=>.list (ns.map PyData.int)
 | .ty _=>.dict []
 | .xc _ _=>.dict []
 | .fn _=>.dict []
 | .tup ds=>.tuple (D.dats ds)
 | .lst _ ds=>.list (D.dats ds)
def D.dats:List D->List PyData
 | []=>[]
 | d :: ds=>d.dat :: D.dats ds
end
theorem D.fzs_eq:∀ ds:List D,D.fzs ds=ds.map D.fz
 | []=>by simp [D.fzs]
 | d :: ds=>by simp [D.fzs,D.fzs_eq ds]
mutual
def D.sh:D->Bool
 | .non=>true
 | .bl _=>true
 | .int _=>true
 | .str _=>true
 | .scr _=>true
 | .ty _=>true
 | .xc _ _=>true
 | .fn _=>true
 | .tup ds=>D.shs ds
 | .lst o ds=>!o&&D.shs ds
def D.shs:List D->Bool
 | []=>true
 | d :: ds=>d.sh&&D.shs ds
end
mutual
theorem D.sh_fz:∀ d:D,d.sh=true->d.fz=d
 | .non,_=>by rw [D.fz]
 | .bl _,_=>by rw [D.fz]
 | .int _,_=>by rw [D.fz]
 | .str _,_=>by rw [D.fz]
 | .scr _,_=>by rw [D.fz]
 | .ty _,_=>by rw [D.fz]
 | .xc _ _,_=>by rw [D.fz]
 | .fn _,_=>by rw [D.fz]
 | .tup ds,h=>by rw [D.fz,D.shs_fz ds (by rw [D.sh] at h;exact h)]
 | .lst o ds,h=>by
  rw [D.sh,Bool.and_eq_true] at h
  rw [D.fz,D.shs_fz ds h.2]
  cases o with
  | false=>rfl
  | true=>cases h.1
theorem D.shs_fz:∀ ds:List D,D.shs ds=true->D.fzs ds=ds
 | [],_=>by rw [D.fzs]
 | d :: ds,h=>by
  rw [D.shs,Bool.and_eq_true] at h
  rw [D.fzs,D.sh_fz d h.1,D.shs_fz ds h.2]
end
mutual
theorem D.fz_fz:∀ d:D,d.fz.fz=d.fz
 | .non=>by simp [D.fz]
 | .bl _=>by simp [D.fz]
 | .int _=>by simp [D.fz]
 | .str _=>by simp [D.fz]
 | .scr _=>by simp [D.fz]
 | .ty _=>by simp [D.fz]
 | .xc _ _=>by simp [D.fz]
 | .fn _=>by simp [D.fz]
 | .tup ds=>by simp [D.fz,D.fzs_fzs ds]
 | .lst _ ds=>by simp [D.fz,D.fzs_fzs ds]
theorem D.fzs_fzs:∀ ds:List D,D.fzs (D.fzs ds)=D.fzs ds
 | []=>by simp [D.fzs]
 | d :: ds=>by simp [D.fzs,D.fz_fz d,D.fzs_fzs ds]
end
def uT (K:PySem.W.Frag) (H:Hp) (a:Addr) (ns:List Int):Prop:=
 (∃ o,H a=some (.frz o (.lst (ns.map V.int)))) ∨
  ∃ (o:Obj) (its:Array Value) (n:Nat),K.lookup a=some o∧o.cls = .type "list" ∧ o.dict=none∧o.data = .seq its n∧its.size<=sizeLine∧Vals (ns.map V.int) its.toList
def YT (C:Addr) (o:Obj):Prop:=o.cls = .ref C ∧ ∃ vs:Array Value,o.data = .fields vs∧vs[2]? = some .none
theorem uT.sq {K:PySem.W.Frag} {H:Hp} {a:Addr} {ns:List Int} (h:uT K H a ns):SqL K H a (ns.map V.int):=by
 rcases h with ⟨o,e⟩ | h
 ·exact .inl (.inr ⟨o,e⟩)
 ·exact .inr h
section
variable (K:PySem.W.Frag) (F:Addr->Prop) (H:Hp)
mutual
inductive Rp:V->D->List Addr->Prop where
 | non:Rp .non .non []
 | bl (b:Bool):Rp (.bl b) (.bl b) []
 | int (i:Int):Rp (.int i) (.int i) []
 | str (x:Str):Rp (.str x) (.str x) []
 | ty (n:String):Rp (.ty n) (.ty n) []
 | xc {a C:Addr} {x:Str} {o:Obj} {u:HO}:PySem.W.nsIn K mainGlobals x=some (some (.ref C))->H a=some (.frz o u)->YT C o->Rp (.ref a) (.xc x a) []
 | fn {a:Addr} {x:Str}:PySem.W.nsIn K mainGlobals x=some (some (.ref a))->Rp (.ref a) (.fn x) []
 | tup {a:Addr} {vs:List V} {ds:List D} {L:List Addr}:H a=some (.tup vs)->Rps vs ds L->Rp (.ref a) (.tup ds) L
 | scr {a:Addr} {ns:List Int}:uT K H a ns->Rp (.ref a) (.scr ns) []
 | frz {a:Addr} {vs:List V} {ds:List D}:H a=some (.lst vs)->F a->Rps vs ds []->Rp (.ref a) (.lst false ds) []
 | own {a:Addr} {vs:List V} {ds:List D} {L:List Addr}:H a=some (.lst vs)->Rps vs ds L->Rp (.ref a) (.lst true ds) (a :: L)
inductive Rps:List V->List D->List Addr->Prop where
 | nil:Rps [] [] []
 | cons {v:V} {vs:List V} {d:D} {ds:List D} {L M:List Addr}:Rp v d L->Rps vs ds M->Rps (v :: vs) (d :: ds) (L++M)
end
end
section
variable {K:PySem.W.Frag} {F F':Addr->Prop} {H H':Hp}
theorem Rd.keep {a:Addr} {u:HO} (r:Rd H a u) (k:∀ o,H a=some o->H' a=some o):Rd H' a u:=by
 rcases r with r | ⟨o,r⟩
 ·exact .inl (k _ r)
 ·exact .inr ⟨o,k _ r⟩
def Still:HO->Prop
 | .lst _=>False
 | .dK _=>False
 | .dT _=>False
 | .set _ _=>False
 | .ins _ _ _=>False
 | .ext _=>False
 | _=>True
theorem SqT.keep {a:Addr} {vs:List V} (r:SqT K H a vs) (k:∀ o,H a=some o->Still o->H' a=some o):SqT K H' a vs:=by
 rcases r with r | r
 ·refine .inl ?_
  rcases r with r | ⟨o,r⟩
  ·exact .inl (k _ r trivial)
  ·exact .inr ⟨o,k _ r trivial⟩
 ·exact .inr r
theorem uT.keep {a:Addr} {ns:List Int} (r:uT K H a ns) (k:∀ o,H a=some o->Still o->H' a=some o):uT K H' a ns:=by
 rcases r with ⟨o,r⟩ | r
 ·exact .inl ⟨o,k _ r trivial⟩
 ·exact .inr r
mutual
theorem Rp.mono (hF:∀ a,F a->F' a) (hT:∀ a o,H a=some o->Still o->H' a=some o) (hK:∀ a o,F a->H a=some o->H' a=some o) :
  ∀ {v:V} {d:D} {L:List Addr},Rp K F H v d L->(∀ a∈L,∀ o,H a=some o->H' a=some o)->Rp K F' H' v d L
 | _,_,_,.non,_=>.non
 | _,_,_,.bl b,_=>.bl b
 | _,_,_,.int i,_=>.int i
 | _,_,_,.str x,_=>.str x
 | _,_,_,.ty n,_=>.ty n
 | _,_,_,.xc n h c,_=>.xc n (hT _ _ h trivial) c
 | _,_,_,.fn n,_=>.fn n
 | _,_,_,.tup h r,k=>.tup (hT _ _ h trivial) (Rps.mono hF hT hK r k)
 | _,_,_,.scr h,_=>.scr (h.keep fun o e s=>hT _ o e s)
 | _,_,_,.frz h f r,k=>.frz (hK _ _ f h) (hF _ f) (Rps.mono hF hT hK r k)
 | _,_,_,.own h r,k=>.own (k _ List.mem_cons_self _ h) (Rps.mono hF hT hK r fun a ha=>k a (List.mem_cons_of_mem _ ha))
theorem Rps.mono (hF:∀ a,F a->F' a) (hT:∀ a o,H a=some o->Still o->H' a=some o) (hK:∀ a o,F a->H a=some o->H' a=some o) :
  ∀ {vs:List V} {ds:List D} {L:List Addr},Rps K F H vs ds L->(∀ a∈L,∀ o,H a=some o->H' a=some o)->Rps K F' H' vs ds L
 | _,_,_,.nil,_=>.nil
 | _,_,_,.cons r rs,k=>.cons (Rp.mono hF hT hK r fun a ha=>k a (List.mem_append_left _ ha)) (Rps.mono hF hT hK rs fun a ha=>k a (List.mem_append_right _ ha))
end
mutual
theorem Rp.own_lst:∀ {v:V} {d:D} {L:List Addr},Rp K F H v d L -> ∀ a∈L,∃ xs,H a=some (.lst xs)
 | _,_,_,.non,a,h=>absurd h (by simp)
 | _,_,_,.bl b,a,h=>absurd h (by simp)
 | _,_,_,.int i,a,h=>absurd h (by simp)
 | _,_,_,.str x,a,h=>absurd h (by simp)
 | _,_,_,.tup _ r,a,h=>Rps.own_lst r a h
 | _,_,_,.frz _ _ _,a,h=>absurd h (by simp)
 | _,_,_,.scr _,a,h=>absurd h (by simp)
 | _,_,_,.ty _,a,h=>absurd h (by simp)
 | _,_,_,.xc _ _ _,a,h=>absurd h (by simp)
 | _,_,_,.fn _,a,h=>absurd h (by simp)
 | _,_,_,.own e r,a,h=>by
  rcases List.mem_cons.mp h with z | z
  ·rw [z];exact ⟨_,e⟩
  ·exact Rps.own_lst r a z
theorem Rps.own_lst:∀ {vs:List V} {ds:List D} {L:List Addr},Rps K F H vs ds L -> ∀ a∈L,∃ xs,H a=some (.lst xs)
 | _,_,_,.nil,a,h=>absurd h (by simp)
 | _,_,_,.cons r rs,a,h=>by
  rcases List.mem_append.mp h with z | z
  ·exact Rp.own_lst r a z
  ·exact Rps.own_lst rs a z
end
mutual
theorem Rp.freeze:∀ {v:V} {d:D} {L:List Addr},Rp K F H v d L->(∀ a,F a->F' a)->(∀ a∈L,F' a)->Rp K F' H v d.fz []
 | _,_,_,.non,_,_=>by rw [D.fz];exact .non
 | _,_,_,.bl b,_,_=>by rw [D.fz];exact .bl b
 | _,_,_,.int i,_,_=>by rw [D.fz];exact .int i
 | _,_,_,.str x,_,_=>by rw [D.fz];exact .str x
 | _,_,_,.tup h r,f,k=>by rw [D.fz];exact .tup h (Rps.freeze r f k)
 | _,_,_,.scr h,_,_=>by rw [D.fz];exact .scr h
 | _,_,_,.ty n,_,_=>by rw [D.fz];exact .ty n
 | _,_,_,.xc n h c,_,_=>by rw [D.fz];exact .xc n h c
 | _,_,_,.fn n,_,_=>by rw [D.fz];exact .fn n
 | _,_,_,.frz h z r,f,k=>by rw [D.fz];exact .frz h (f _ z) (Rps.freeze r f k)
 | _,_,_,.own h r,f,k=>by rw [D.fz];exact .frz h (k _ List.mem_cons_self) (Rps.freeze r f fun a ha=>k a (List.mem_cons_of_mem _ ha))
theorem Rps.freeze:∀ {vs:List V} {ds:List D} {L:List Addr},Rps K F H vs ds L->(∀ a,F a->F' a)->(∀ a∈L,F' a)->Rps K F' H vs (D.fzs ds) []
 | _,_,_,.nil,_,_=>by rw [D.fzs];exact .nil
 | _,_,_,.cons (L:=L) (M:=M) r rs,f,k=>by
  rw [D.fzs]
  exact .cons (L:=[]) (M:=[]) (Rp.freeze r f fun a ha=>k a (List.mem_append_left _ ha)) (Rps.freeze rs f fun a ha=>k a (List.mem_append_right _ ha))
end
mutual
theorem Rp.fz_nil:∀ {v:V} {d:D} {L:List Addr},Rp K F H v d L->d.fz=d->L=[]
 | _,_,_,.non,_=>rfl
 | _,_,_,.bl b,_=>rfl
 | _,_,_,.int i,_=>rfl
 | _,_,_,.str x,_=>rfl
 | _,_,_,.tup h r,e=>Rps.fz_nil r (by rw [D.fz] at e;injection e)
 | _,_,_,.frz _ _ _,_=>rfl
 | _,_,_,.scr _,_=>rfl
 | _,_,_,.ty _,_=>rfl
 | _,_,_,.xc _ _ _,_=>rfl
 | _,_,_,.fn _,_=>rfl
 | _,_,_,.own h r,e=>by rw [D.fz] at e;injection e with e1 _;cases e1
theorem Rps.fz_nil:∀ {vs:List V} {ds:List D} {L:List Addr},Rps K F H vs ds L->D.fzs ds=ds->L=[]
 | _,_,_,.nil,_=>rfl
 | _,_,_,.cons r rs,e=>by
  rw [D.fzs] at e
  injection e with e1 e2
  rw [Rp.fz_nil r e1,Rps.fz_nil rs e2];rfl
end
mutual
theorem Rp.clean:∀ {v:V} {d:D} {L:List Addr},Rp K F H v d L->d.clean=true->Rp K F' H v d L
 | _,_,_,.non,_=>.non
 | _,_,_,.bl b,_=>.bl b
 | _,_,_,.int i,_=>.int i
 | _,_,_,.str x,_=>.str x
 | _,_,_,.tup h r,e=>.tup h (Rps.clean r (by rw [D.clean] at e;exact e))
 | _,_,_,.frz _ _ _,e=>by rw [D.clean] at e;simp at e
 | _,_,_,.scr h,_=>.scr h
 | _,_,_,.ty n,_=>.ty n
 | _,_,_,.xc n h c,_=>.xc n h c
 | _,_,_,.fn n,_=>.fn n
 | _,_,_,.own h r,e=>.own h (Rps.clean r (by rw [D.clean] at e;simpa using e))
theorem Rps.clean:∀ {vs:List V} {ds:List D} {L:List Addr},Rps K F H vs ds L->D.cleans ds=true->Rps K F' H vs ds L
 | _,_,_,.nil,_=>.nil
 | _,_,_,.cons r rs,e=>by
  rw [D.cleans,Bool.and_eq_true] at e
  exact .cons (Rp.clean r e.1) (Rps.clean rs e.2)
end
theorem Gq:∀ ns:List Int,DpAll K H (ns.map V.int) (ns.map PyData.int)
 | []=>.nil
 | n :: ns=>.cons (.int n) (Gq ns)
mutual
def D.pl:D->Bool
 | .ty _=>false
 | .xc _ _=>false
 | .fn _=>false
 | .tup ds=>D.pls ds
 | .lst _ ds=>D.pls ds
 | .non=>true
 | .bl _=>true
 | .int _=>true
 | .str _=>true
 | .scr _=>true
def D.pls:List D->Bool
 | []=>true
 | d :: ds=>d.pl&&D.pls ds
end
mutual
theorem Rp.dp:∀ {v:V} {d:D} {L:List Addr},Rp K F H v d L->d.pl=true->Dp K H v d.dat
 | _,_,_,.non,_=>by rw [D.dat];exact .non
 | _,_,_,.bl b,_=>by rw [D.dat];exact .bl b
 | _,_,_,.int i,_=>by rw [D.dat];exact .int i
 | _,_,_,.str x,_=>by rw [D.dat];exact .str x
 | _,_,_,.ty n,h=>by simp [D.pl] at h
 | _,_,_,.xc _ _ _,h=>by simp [D.pl] at h
 | _,_,_,.fn _,h=>by simp [D.pl] at h
 | _,_,_,.tup h r,e=>by rw [D.dat];exact .tup (.of h) (Rps.dp r (by rw [D.pl] at e;exact e))
 | _,_,_,.frz h _ r,e=>by rw [D.dat];exact .lst (.inl (.inl h)) (Rps.dp r (by rw [D.pl] at e;exact e))
 | _,_,_,.scr h,_=>by rw [D.dat];exact .lst h.sq (Gq _)
 | _,_,_,.own h r,e=>by rw [D.dat];exact .lst (.inl (.inl h)) (Rps.dp r (by rw [D.pl] at e;exact e))
theorem Rps.dp:∀ {vs:List V} {ds:List D} {L:List Addr},Rps K F H vs ds L->D.pls ds=true->DpAll K H vs (D.dats ds)
 | _,_,_,.nil,_=>by rw [D.dats];exact .nil
 | _,_,_,.cons r rs,e=>by
  rw [D.pls,Bool.and_eq_true] at e
  rw [D.dats];exact .cons (Rp.dp r e.1) (Rps.dp rs e.2)
end
theorem Rp.sh_nil {v:V} {d:D} {L:List Addr} (r:Rp K F H v d L) (h:d.sh=true):L=[]:=r.fz_nil (d.sh_fz h)
theorem Rps.sh_nil {vs:List V} {ds:List D} {L:List Addr} (r:Rps K F H vs ds L) (h:D.shs ds=true):L=[]:=r.fz_nil (D.shs_fz ds h)
theorem Rps.length:∀ {vs:List V} {ds:List D} {L:List Addr},Rps K F H vs ds L->vs.length=ds.length
 | _,_,_,.nil=>rfl
 | _,_,_,.cons _ rs=>by rw [List.length_cons,List.length_cons,Rps.length rs]
theorem Rps.append:∀ {vs ws:List V} {ds es:List D} {L M:List Addr},Rps K F H vs ds L->Rps K F H ws es M->Rps K F H (vs++ws) (ds++es) (L++M)
 | _,_,_,_,_,_,.nil,s=>s
 | _,_,_,_,_,_,.cons r rs,s=>by rw [List.append_assoc];exact .cons r (Rps.append rs s)
theorem Rps.get:∀ {vs:List V} {ds:List D} {L:List Addr} {i:Nat} {d:D},Rps K F H vs ds L->ds[i]? = some d -> ∃ v M,vs[i]? = some v∧Rp K F H v d M∧M.Sublist L
 | _,_,_,i,d,.nil,e=>by simp at e
 | _,_,_,0,d,.cons (L:=L) (M:=M) r rs,e=>by
  simp at e;subst e
  exact ⟨_,L,rfl,r,List.sublist_append_left _ _⟩
 | _,_,_,i+1,d,.cons (L:=L) (M:=M) r rs,e=>by
  obtain ⟨v,M',h1,h2,h3⟩:=Rps.get (i:=i) rs (by simpa using e)
  exact ⟨v,M',by simpa using h1,h2,h3.trans (List.sublist_append_right _ _)⟩
end
mutual
theorem D.pl_of:∀ d:D,d.dat.canLay0=true->d.pl=true
 | .non,_=>by simp [D.pl]
 | .bl _,_=>by simp [D.pl]
 | .int _,_=>by simp [D.pl]
 | .str _,_=>by simp [D.pl]
 | .scr _,_=>by simp [D.pl]
 | .ty _,h=>by simp [D.dat,PyData.canLay0] at h
 | .xc _ _,h=>by simp [D.dat,PyData.canLay0] at h
 | .fn _,h=>by simp [D.dat,PyData.canLay0] at h
 | .tup ds,h=>by rw [D.pl];exact D.pls_of ds (by rw [D.dat,PyData.canLay0] at h;exact h)
 | .lst _ ds,h=>by rw [D.pl];exact D.pls_of ds (by rw [D.dat,PyData.canLay0] at h;exact h)
theorem D.pls_of:∀ ds:List D,PyData.canLayAll0 (D.dats ds)=true->D.pls ds=true
 | [],_=>by simp [D.pls]
 | d :: ds,h=>by
  rw [D.dats,PyData.canLayAll0,Bool.and_eq_true] at h
  rw [D.pls,D.pl_of d h.1,D.pls_of ds h.2];rfl
end
end L2
namespace L2
open PySem PySem.Spec PyProof.Rows
abbrev En:=List (Option D)
structure WS (K:PySem.W.Frag) (F:Addr->Prop) (H:Hp) (σ : St) (ρ : En) (Ls:Nat->List Addr) (R:List Addr):Prop where
 len : ρ.length = σ.length
 sl:∀ (i:Nat) (d:D),ρ[i]? = some (some d) -> ∃ v,σ[i]? = some (some v)∧Rp K F H v d (Ls i)
 em:∀ i:Nat,(∀ d,ρ[i]? ≠ some (some d))->Ls i=[]
 nd:∀ i,(Ls i).Nodup
 dj:∀ i j a,a∈Ls i->a∈Ls j->i=j
 rd:R.Nodup
 rj:∀ i a,a∈Ls i->a ∉ R
 nf:∀ i a,a∈Ls i -> ¬ F a
 nr:∀ a∈R,¬ F a
 tr:∀ a∈R,∃ xs,H a=some (.lst xs)
 ft:∀ a,F a->H a≠none
structure Step (F:Addr->Prop) (H:Hp) (Ls:Nat->List Addr) (F':Addr->Prop) (H':Hp) (Ls':Nat->List Addr) (Ld:List Addr):Prop where
 keep:∀ a o,H a=some o->(∀ i,a ∉ Ls i)->H' a=some o
 mono:∀ a,F a->F' a
 src:∀ i a,a∈Ls' i->(∃ j,a∈Ls j)∨H a=none
 srcD:∀ a∈Ld,(∃ j,a∈Ls j)∨H a=none
section
variable {K:PySem.W.Frag} {F F1 F2:Addr->Prop} {H H1 H2:Hp} {σ : St} {ρ ρ1:En} {Ls Ls1 Ls2:Nat->List Addr} {R Ld Ld1 Ld2:List Addr} {v:V} {d:D} {L:List Addr}
theorem WS.own (w:WS K F H σ ρ Ls R) {i:Nat} {a:Addr} (h:a∈Ls i):∃ xs,H a=some (.lst xs):=by
 by_cases e:∃ d,ρ[i]? = some (some d)
 ·obtain ⟨d,e⟩:=e
  obtain ⟨v,_,r⟩:=w.sl i d e
  exact r.own_lst a h
 ·rw [w.em i fun d z=>e ⟨d,z⟩] at h;simp at h
theorem Step.refl:Step F H Ls F H Ls []:=⟨fun _ _ e _=>e,fun _ h=>h,fun i a h=>.inl ⟨i,h⟩,fun a h=>absurd h (by simp)⟩
theorem Step.trans (s1:Step F H Ls F1 H1 Ls1 Ld1) (s2:Step F1 H1 Ls1 F2 H2 Ls2 Ld2):Step F H Ls F2 H2 Ls2 Ld2:=by
 have back:∀ a,((∃ j,a∈Ls1 j)∨H1 a=none)->(∃ j,a∈Ls j)∨H a=none:=fun a h=>by
  rcases h with ⟨j,h⟩ | h
  ·exact s1.src j a h
  ·by_cases e:∃ j,a∈Ls j
   ·exact .inl e
   ·cases q:H a with
    | none=>exact .inr rfl
    | some o=>rw [s1.keep a o q fun i z=>e ⟨i,z⟩] at h;cases h
 refine ⟨fun a o e n=>s2.keep a o (s1.keep a o e n) fun i z=>?_,fun a h=>s2.mono a (s1.mono a h),fun i a h=>back a (s2.src i a h),fun a h=>back a (s2.srcD a h)⟩
 rcases s1.src i a z with ⟨j,q⟩ | q
 ·exact n j q
 ·rw [e] at q;cases q
theorem Step.more (s1:Step F H Ls F1 H1 Ls1 Ld1) (h:∀ a∈Ld2,(∃ j,a∈Ls j)∨H a=none):Step F H Ls F1 H1 Ls1 Ld2:=⟨s1.keep,s1.mono,s1.src,h⟩
theorem Step.both (s1:Step F H Ls F1 H1 Ls1 Ld1) (s2:Step F1 H1 Ls1 F2 H2 Ls2 Ld2):Step F H Ls F2 H2 Ls2 (Ld1++Ld2):=
 (s1.trans s2).more fun a h=>by
  rcases List.mem_append.mp h with z | z
  ·exact s1.srcD a z
  ·exact (s1.trans s2).srcD a z
theorem Rp.step (w:WS K F H σ ρ Ls R) (s:Step F H Ls F1 H1 Ls1 Ld) (r:Rp K F H v d L) (h:∀ a∈L,a∈R):Rp K F1 H1 v d L:=by
 refine r.mono s.mono (fun a o e st=>s.keep a o e fun i z=>?_) (fun a o f e=>s.keep a o e fun i z=>w.nf i a z f) fun a ha o e=>s.keep a o e fun i z=>w.rj i a z (h a ha)
 obtain ⟨xs,q⟩:=w.own z
 rw [e] at q;cases q;exact st
theorem Rps.step (w:WS K F H σ ρ Ls R) (s:Step F H Ls F1 H1 Ls1 Ld) {vs:List V} {ds:List D} (r:Rps K F H vs ds L) (h:∀ a∈L,a∈R):Rps K F1 H1 vs ds L:=by
 refine r.mono s.mono (fun a o e st=>s.keep a o e fun i z=>?_) (fun a o f e=>s.keep a o e fun i z=>w.nf i a z f) fun a ha o e=>s.keep a o e fun i z=>w.rj i a z (h a ha)
 obtain ⟨xs,q⟩:=w.own z
 rw [e] at q;cases q;exact st
theorem Rp.laid {p:Addr} {o:HO} (hn:H p=none) (r:Rp K F H v d L):Rp K F (upd H p o) v d L:=
 r.mono (fun _ h=>h) (fun a u e _=>by rw [bJ (bW e hn)];exact e) (fun a u _ e=>by rw [bJ (bW e hn)];exact e) fun a _ u e=>by rw [bJ (bW e hn)];exact e
theorem Rps.laid {p:Addr} {o:HO} (hn:H p=none) {vs:List V} {ds:List D} (r:Rps K F H vs ds L):Rps K F (upd H p o) vs ds L:=
 r.mono (fun _ h=>h) (fun a u e _=>by rw [bJ (bW e hn)];exact e) (fun a u _ e=>by rw [bJ (bW e hn)];exact e) fun a _ u e=>by rw [bJ (bW e hn)];exact e
theorem WS.laid {p:Addr} {o:HO} (hn:H p=none) (w:WS K F H σ ρ Ls R):WS K F (upd H p o) σ ρ Ls R where
 len:=w.len
 sl:=fun i d e=>let ⟨v,h1,h2⟩:=w.sl i d e;⟨v,h1,h2.laid hn⟩
 em:=w.em
 nd:=w.nd
 dj:=w.dj
 rd:=w.rd
 rj:=w.rj
 nf:=w.nf
 nr:=w.nr
 tr:=fun a h=>let ⟨xs,e⟩:=w.tr a h;⟨xs,by rw [bJ (bW e hn)];exact e⟩
 ft:=fun a h=>by
  by_cases e:a=p
  ·rw [e,cW];simp
  ·rw [bJ e];exact w.ft a h
theorem Step.laid {p:Addr} {o:HO} (hn:H p=none):Step F H Ls F (upd H p o) Ls []:=
 ⟨fun a u e _=>by rw [bJ (bW e hn)];exact e,fun _ h=>h,fun i a h=>.inl ⟨i,h⟩,fun a h=>absurd h (by simp)⟩
theorem WS.less {R':List Addr} (w:WS K F H σ ρ Ls R) (h:R'.Sublist R):WS K F H σ ρ Ls R':=
 { w with rd:=w.rd.sublist h,rj:=fun i a z q=>w.rj i a z (h.subset q),nr:=fun a z=>w.nr a (h.subset z),tr:=fun a z=>w.tr a (h.subset z) }
theorem WS.perm {R':List Addr} (w:WS K F H σ ρ Ls R) (h:R'.Perm R):WS K F H σ ρ Ls R':=
 { w with rd:=h.nodup_iff.mpr w.rd,rj:=fun i a z q=>w.rj i a z (h.mem_iff.mp q),nr:=fun a z=>w.nr a (h.mem_iff.mp z),tr:=fun a z=>w.tr a (h.mem_iff.mp z) }
theorem WS.give {M:List Addr} (w:WS K F H σ ρ Ls (M++R)):WS K (fun a=>F a∨a∈M) H σ ρ Ls R where
 len:=w.len
 sl:=fun i d e=>let ⟨v,h1,h2⟩:=w.sl i d e;⟨v,h1,h2.mono (fun _ h=>.inl h) (fun _ _ e _=>e) (fun _ _ _ e=>e) fun _ _ _ e=>e⟩
 em:=w.em
 nd:=w.nd
 dj:=w.dj
 rd:=(List.nodup_append.mp w.rd).2.1
 rj:=fun i a z q=>w.rj i a z (List.mem_append_right _ q)
 nf:=fun i a z q=>by
  rcases q with q | q
  ·exact w.nf i a z q
  ·exact w.rj i a z (List.mem_append_left _ q)
 nr:=fun a z q=>by
  rcases q with q | q
  ·exact w.nr a (List.mem_append_right _ z) q
  ·exact (List.nodup_append.mp w.rd).2.2 a q a z rfl
 tr:=fun a z=>w.tr a (List.mem_append_right _ z)
 ft:=fun a h=>by
  rcases h with h | h
  ·exact w.ft a h
  ·obtain ⟨xs,e⟩:=w.tr a (List.mem_append_left _ h)
   rw [e];simp
theorem Step.give {M:List Addr}:Step F H Ls (fun a=>F a∨a∈M) H Ls []:=⟨fun _ _ e _=>e,fun _ h=>.inl h,fun i a h=>.inl ⟨i,h⟩,fun a h=>absurd h (by simp)⟩
theorem WS.put {p:Addr} {xs:List V} (hn:H p=none) (w:WS K F H σ ρ Ls R):WS K F (upd H p (.lst xs)) σ ρ Ls (p :: R):=
 let w':=w.laid (o:=.lst xs) hn
 { w' with
   rd:=List.nodup_cons.mpr ⟨fun z=>(by obtain ⟨ys,e⟩:=w.tr p z;rw [hn] at e;cases e),w.rd⟩
   rj:=fun i a z q=>by
    rcases List.mem_cons.mp q with q | q
    ·subst q;obtain ⟨ys,e⟩:=w.own z;rw [hn] at e;cases e
    ·exact w.rj i a z q
   nr:=fun a z q=>by
    rcases List.mem_cons.mp z with z | z
    ·subst z;exact w.ft a q hn
    ·exact w.nr a z q
   tr:=fun a z=>by
    rcases List.mem_cons.mp z with z | z
    ·subst z;exact ⟨xs,cW⟩
    ·exact w'.tr a z }
end
abbrev bU:=En->(D->En->Prop)->Prop
def kJ (K:PySem.W.Frag) (s:bU):TE:=fun σ H Q=>∃ F ρ Ls R Qd,WS K F H σ ρ Ls R∧s ρ Qd ∧
 ∀ v H' d ρ' F' Ls' Ld,Rp K F' H' v d Ld->WS K F' H' σ ρ' Ls' (Ld++R)->Step F H Ls F' H' Ls' Ld->Qd d ρ'->Q v H'
def SE (X:Cx) (e:Expr) (s:bU):Prop:=PE X e (kJ X.K s)
theorem PE.wk {X:Cx} {e:Expr} {t t':TE} (h:PE X e t) (k:∀ σ H Q,t' σ H Q->t σ H Q):PE X e t':=fun pins s σ H Q I q=>h pins s σ H Q I (k σ H Q q)
theorem PT.wk {X:Cx} {e:Expr} {t t':TT} (h:PT X e t) (k:∀ σ H Q,t' σ H Q->t σ H Q):PT X e t':=fun pins s σ H Q I q=>h pins s σ H Q I (k σ H Q q)
theorem PW.wk {X:Cx} {e:Expr} {t t':TT} (h:PW X e t) (k:∀ σ H Q,t' σ H Q->t σ H Q):PW X e t':=fun wh pins s σ H Q I q=>h wh pins s σ H Q I (k σ H Q q)
theorem PA.wk {X:Cx} {e:List Expr} {t t':TA} (h:PA X e t) (k:∀ σ H Q,t' σ H Q->t σ H Q):PA X e t':=fun pos pins s σ H Q I q=>h pos pins s σ H Q I (k σ H Q q)
theorem PS.wk {X:Cx} {e:Stmt} {t t':TS} (h:PS X e t) (k:∀ D σ H,t' D σ H->t D σ H):PS X e t':=fun pins s σ H D I q=>h pins s σ H D I (k D σ H q)
theorem PSs.wk {X:Cx} {e:List Stmt} {t t':TS} (h:PSs X e t) (k:∀ D σ H,t' D σ H->t D σ H):PSs X e t':=fun pins s σ H D I q=>h pins s σ H D I (k D σ H q)
def D.flat:D->Option V
 | .non=>some .non
 | .bl b=>some (.bl b)
 | .int i=>some (.int i)
 | .str x=>some (.str x)
 | .ty n=>some (.ty n)
 | _=>none
theorem Rp.ofFlat {K:PySem.W.Frag} {F:Addr->Prop} {H:Hp}:∀ {d:D} {v:V},d.flat=some v->Rp K F H v d []
 | .non,_,e=>by cases e;exact .non
 | .bl b,_,e=>by cases e;exact .bl b
 | .int i,_,e=>by cases e;exact .int i
 | .str x,_,e=>by cases e;exact .str x
 | .tup _,_,e=>by cases e
 | .lst _ _,_,e=>by cases e
 | .scr _,_,e=>by cases e
 | .ty n,_,e=>by cases e;exact .ty n
 | .xc _ _,_,e=>by cases e
 | .fn _,_,e=>by cases e
theorem Rp.isInt {K:PySem.W.Frag} {F:Addr->Prop} {H:Hp} {v:V} {i:Int} {L:List Addr} (r:Rp K F H v (.int i) L):v = .int i:=by cases r;rfl
theorem Rp.isBl {K:PySem.W.Frag} {F:Addr->Prop} {H:Hp} {v:V} {i:Bool} {L:List Addr} (r:Rp K F H v (.bl i) L):v = .bl i:=by cases r;rfl
theorem Rp.isStr {K:PySem.W.Frag} {F:Addr->Prop} {H:Hp} {v:V} {i:Str} {L:List Addr} (r:Rp K F H v (.str i) L):v = .str i:=by cases r;rfl
def sC (d:D):bU:=fun ρ Q=>Q d ρ
section
variable {X:Cx} {pos:Pos}
theorem kO {K:PySem.W.Frag} {d:D} {v:V} (e:d.flat=some v) {σ : St} {H:Hp} {Q:VK} (h:kJ K (sC d) σ H Q):Q v H:=by
 obtain ⟨F,ρ,Ls,R,Qd,w,q,k⟩:=h
 exact k v H d ρ F Ls [] (.ofFlat e) w Step.refl q
theorem ak {i j pos}:SE X (.Constant (.int i) j pos) (sC (.int i)):=VD.wk fun _ _ _ h=>kO rfl h
theorem xr {i j pos}:SE X (.Constant (.bool i) j pos) (sC (.bl i)):=XM.wk fun _ _ _ h=>kO rfl h
theorem Fy {j pos}:SE X (.Constant .none j pos) (sC .non):=VG.wk fun _ _ _ h=>kO rfl h
end
def kY (Ls:Nat->List Addr) (i:Nat) (L:List Addr):Nat->List Addr:=fun j=>if j=i then L else Ls j
theorem aY {Ls:Nat->List Addr} {i:Nat} {L:List Addr}:kY Ls i L i=L:=if_pos rfl
theorem bB {Ls:Nat->List Addr} {i j:Nat} {L:List Addr} (h:j≠i):kY Ls i L j=Ls j:=if_neg h
def cC (i:Nat):bU:=fun ρ Q=>∃ d,ρ[i]? = some (some d)∧if d.sh=true then Q d ρ else Q d.fz (ρ.set i (some d.fz))
section
variable {K:PySem.W.Frag} {F:Addr->Prop} {H:Hp} {σ : St} {ρ : En} {Ls:Nat->List Addr} {R:List Addr}
theorem WS.share {i:Nat} {d:D} (w:WS K F H σ ρ Ls R) (e : ρ[i]? = some (some d)) :
  ∃ v,σ[i]? = some (some v)∧Rp K (fun a=>F a∨a∈Ls i) H v d.fz []∧WS K (fun a=>F a∨a∈Ls i) H σ (ρ.set i (some d.fz)) (kY Ls i []) R:=by
 obtain ⟨v,hv,r⟩:=w.sl i d e
 have hr:=r.freeze (F':=fun a=>F a∨a∈Ls i) (fun _ h=>.inl h) fun _ h=>.inr h
 have hi:i < ρ.length:=(List.getElem?_eq_some_iff.mp e).1
 refine ⟨v,hv,hr,?_⟩
 exact {
  len:=by rw [List.length_set];exact w.len
  sl:=fun j d' e'=>by
   by_cases h:j=i
   ·subst h
    rw [List.getElem?_set_self hi] at e'
    cases e'
    exact ⟨v,hv,by rw [aY];exact hr⟩
   ·rw [List.getElem?_set_ne (Ne.symm h)] at e'
    obtain ⟨u,h1,h2⟩:=w.sl j d' e'
    exact ⟨u,h1,by rw [bB h];exact h2.mono (fun _ h=>.inl h) (fun _ _ e _=>e) (fun _ _ _ e=>e) fun _ _ _ e=>e⟩
  em:=fun j h=>by
   by_cases hj:j=i
   ·rw [hj,aY]
   ·rw [bB hj]
    exact w.em j fun d' z=>h d' (by rw [List.getElem?_set_ne (Ne.symm hj)];exact z)
  nd:=fun j=>by
   by_cases hj:j=i
   ·rw [hj,aY];exact List.nodup_nil
   ·rw [bB hj];exact w.nd j
  dj:=fun j k a h1 h2=>by
   by_cases hj:j=i
   ·rw [hj,aY] at h1;simp at h1
   ·by_cases hk:k=i
    ·rw [hk,aY] at h2;simp at h2
    ·rw [bB hj] at h1;rw [bB hk] at h2;exact w.dj j k a h1 h2
  rd:=w.rd
  rj:=fun j a h=>by
   by_cases hj:j=i
   ·rw [hj,aY] at h;simp at h
   ·rw [bB hj] at h;exact w.rj j a h
  nf:=fun j a h q=>by
   by_cases hj:j=i
   ·rw [hj,aY] at h;simp at h
   ·rw [bB hj] at h
    rcases q with q | q
    ·exact w.nf j a h q
    ·exact hj (w.dj j i a h q)
  nr:=fun a h q=>by
   rcases q with q | q
   ·exact w.nr a h q
   ·exact w.rj i a q h
  tr:=w.tr
  ft:=fun a h=>by
   rcases h with h | h
   ·exact w.ft a h
   ·obtain ⟨xs,e⟩:=w.own h
    rw [e];simp }
theorem Step.share {i:Nat}:Step F H Ls (fun a=>F a∨a∈Ls i) H (kY Ls i []) []:=
 ⟨fun _ _ e _=>e,fun _ h=>.inl h,fun j a h=>by
  by_cases hj:j=i
  ·rw [hj,aY] at h;simp at h
  ·rw [bB hj] at h;exact .inl ⟨j,h⟩,fun a h=>absurd h (by simp)⟩
end
theorem Ws {X:Cx} {i:Nat} {x:Str} {pos:Pos} (hN:X.N[i]? = some x) (hv:Vis X.env.scope x) (hd:(x==("__debug__" : Str))=false:=by decide) (hcd:(x==("__classdict__" : Str))=false:=by decide):SE X (.Name x pos) (cC i):=
 (qt hN hv hd hcd).wk fun σ H Q ⟨F,ρ,Ls,R,Qd,w,⟨d,e,q⟩,k⟩=>by
  split at q
  ·rename_i hs
   obtain ⟨v,hv,r⟩:=w.sl i d e
   cases hL:Ls i with
   | nil=>rw [hL] at r;exact ⟨v,hv,k v H d _ _ _ [] r w Step.refl q⟩
   | cons _ _=>rw [r.sh_nil hs] at hL;cases hL
  ·obtain ⟨v,hv,r,w'⟩:=w.share e
   exact ⟨v,hv,k v H d.fz _ _ _ [] r w' Step.share q⟩
inductive Opd where
 | val (s:bU) | nam (i:Nat)
inductive AD where
 | val (d:D) | nam (i:Nat)
def AD.get (ρ : En):AD->Option D
 | .val d=>some d
 | .nam i=>(ρ[i]?).getD none
def eQ:List Opd->En->(List AD->En->Prop)->Prop
 | [],ρ,Q=>Q [] ρ
 | .val s :: os,ρ,Q=>s ρ fun d ρ1=>eQ os ρ1 fun as ρ2=>Q (.val d :: as) ρ2
 | .nam i :: os,ρ,Q=>(∃ d,ρ[i]? = some (some d))∧eQ os ρ fun as ρ2=>Q (.nam i :: as) ρ2
inductive RpA (K:PySem.W.Frag) (F:Addr->Prop) (H:Hp) (σ : St):List V->List AD->List Addr->Prop where
 | nil:RpA K F H σ [] [] []
 | val {v:V} {vs:List V} {d:D} {as:List AD} {L M:List Addr}:Rp K F H v d L->RpA K F H σ vs as M->RpA K F H σ (v :: vs) (.val d :: as) (L++M)
 | nam {v:V} {vs:List V} {i:Nat} {as:List AD} {M:List Addr} : σ[i]? = some (some v)->RpA K F H σ vs as M->RpA K F H σ (v :: vs) (.nam i :: as) M
def rN (K:PySem.W.Frag):Opd->TE
 | .val s=>kJ K s
 | .nam i=>xM i
def tK (K:PySem.W.Frag) (os:List Opd):TA:=fun σ H Q=>∃ F ρ Ls R Qd,WS K F H σ ρ Ls R∧eQ os ρ Qd ∧
 ∀ vs H' as ρ' F' Ls' La,RpA K F' H' σ vs as La->WS K F' H' σ ρ' Ls' (La++R)->Step F H Ls F' H' Ls' La->Qd as ρ'->Q vs H'
def SO (X:Cx) (e:Expr) (o:Opd):Prop:=PE X e (rN X.K o)
def SA (X:Cx) (es:List Expr) (os:List Opd):Prop:=PA X es (tK X.K os)
section
variable {X:Cx}
theorem aa {e:Expr} {s:bU} (h:SE X e s):SO X e (.val s):=h
theorem Wv {i:Nat} {x:Str} {pos:Pos} (hN:X.N[i]? = some x) (hv:Vis X.env.scope x) (hd:(x==("__debug__" : Str))=false:=by decide) (hcd:(x==("__classdict__" : Str))=false:=by decide):SO X (.Name x pos) (.nam i):=qt hN hv hd hcd
theorem ao:SA X [] []:=Vy.wk fun σ H Q ⟨F,ρ,Ls,R,Qd,w,q,k⟩=>k [] H [] ρ F Ls [] .nil w Step.refl q
theorem dM {K:PySem.W.Frag} {o:Opd} {os:List Opd} {σ : St} {H:Hp} {Q:List V->Hp->Prop} (h:tK K (o :: os) σ H Q):rN K o σ H fun v H1=>tK K os σ H1 fun vs H2=>Q (v :: vs) H2:=by
 obtain ⟨F,ρ,Ls,R,Qd,w,q,k⟩:=h
 cases o with
 | val s=>
  refine ⟨F,ρ,Ls,R,_,w,q,fun v H1 d ρ1 F1 Ls1 Ld r1 w1 s1 q1=>?_⟩
  refine ⟨F1,ρ1,Ls1,Ld++R,_,w1,q1,fun vs H2 as ρ2 F2 Ls2 La r2 w2 s2 q2=>?_⟩
  refine k (v :: vs) H2 (.val d :: as) ρ2 F2 Ls2 (Ld++La) (.val (r1.step w1 s2 fun a ha=>List.mem_append_left _ ha) r2) (w2.perm ?_) (s1.both s2) q2
  rw [← List.append_assoc]
  exact (List.perm_append_comm.append_right R)
 | nam i=>
  obtain ⟨⟨d,e⟩,q⟩:=q
  obtain ⟨v,e,_⟩:=w.sl i d e
  exact ⟨v,e,F,ρ,Ls,R,_,w,q,fun vs H2 as ρ2 F2 Ls2 La r2 w2 s2 q2=>k (v :: vs) H2 (.nam i :: as) ρ2 F2 Ls2 La (.nam e r2) w2 s2 q2⟩
theorem aj {e:Expr} {es:List Expr} {o:Opd} {os:List Opd} (h:SO X e o) (hs:SA X es os) (he:starEach (e :: es) X.env=(false,eval e X.env) :: starEach es X.env:=by rfl):SA X (e :: es) (o :: os):=
 (Ri h hs he).wk fun σ H Q q=>dM q
end
def bG (ρ : En):List AD->Option (List D)
 | []=>some []
 | a :: as=>match a.get ρ,bG ρ as with
  | some d,some ds=>some (d :: ds)
  | _,_=>none
inductive RpB (K:PySem.W.Frag) (F:Addr->Prop) (H:Hp):List V->List D->Prop where
 | nil:RpB K F H [] []
 | cons {v:V} {vs:List V} {d:D} {ds:List D} {L:List Addr}:Rp K F H v d L->RpB K F H vs ds->RpB K F H (v :: vs) (d :: ds)
section
variable {K:PySem.W.Frag} {F:Addr->Prop} {H:Hp} {σ : St} {ρ : En} {Ls:Nat->List Addr} {R:List Addr}
theorem RpA.at (w:WS K F H σ ρ Ls R):∀ {vs:List V} {as:List AD} {La:List Addr} {ds:List D},RpA K F H σ vs as La->bG ρ as=some ds->RpB K F H vs ds
 | _,_,_,_,.nil,e=>by cases e;exact .nil
 | _,_,_,_,.val (d:=d) (as:=as) r rs,e=>by
  simp only [bG,AD.get] at e
  cases h:bG ρ as with
  | none=>rw [h] at e;cases e
  | some ds=>rw [h] at e;cases e;exact .cons r (RpA.at w rs h)
 | _,_,_,_,.nam (i:=i) (as:=as) hi rs,e=>by
  simp only [bG,AD.get] at e
  cases hd : ρ[i]? with
  | none=>rw [hd] at e;simp at e
  | some o=>
   cases o with
   | none=>rw [hd] at e;simp at e
   | some d=>
    rw [hd] at e
    cases h:bG ρ as with
    | none=>rw [h] at e;simp at e
    | some ds=>
     rw [h] at e
     simp at e
     subst e
     obtain ⟨u,hu,r⟩:=w.sl i d hd
     rw [hi] at hu
     cases hu
     exact .cons r (RpA.at w rs h)
end
section
variable {X:Cx} {a b:Expr} {o1 o2:Opd} {pos:Pos}
theorem xO {K:PySem.W.Frag} {σ : St} {H:Hp} {r:R2} {Q:VK} (h:tK K [o1,o2] σ H fun vs H1=>∃ x y,vs=[x,y]∧r x y H1 Q):tOp r (rN K o1) (rN K o2) σ H Q:=by
 have h1:=dM h
 have mono:∀ (o:Opd) (σ : St) (H:Hp) (P P':VK),(∀ v H,P v H->P' v H)->rN K o σ H P->rN K o σ H P':=fun o σ H P P' i h=>by
  cases o with
  | val s=>
   obtain ⟨F,ρ,Ls,R,Qd,w,q,k⟩:=h
   exact ⟨F,ρ,Ls,R,Qd,w,q,fun v H' d ρ' F' Ls' Ld a1 a2 a3 a4=>i _ _ (k v H' d ρ' F' Ls' Ld a1 a2 a3 a4)⟩
  | nam i'=>obtain ⟨v,e,p⟩:=h;exact ⟨v,e,i _ _ p⟩
 refine mono o1 σ H _ _ (fun v H1 q1=>?_) h1
 refine mono o2 σ H1 _ _ (fun u H2 q2=>?_) (dM q1)
 obtain ⟨F,ρ,Ls,R,Qd,w,q,k⟩:=q2
 obtain ⟨x,y,e,q⟩:=k [] H2 [] ρ F Ls [] .nil w Step.refl q
 cases e
 exact q
end
end L2
namespace L2
open PySem PySem.Spec PyProof.Rows
def Out (K:PySem.W.Frag) (F:Addr->Prop) (H:Hp) (f:D) (v:V) (H':Hp) (Lf:List Addr):Prop:=
 Rp K F H' v f Lf∧((H'=H∧Lf=[]) ∨ ∃ p,H p=none∧((∃ xs,H'=upd H p (.lst xs)∧Lf=[p]) ∨ ∃ xs,H'=upd H p (.tup xs)∧Lf=[]))
theorem Out.ofFlat {K:PySem.W.Frag} {F:Addr->Prop} {H:Hp} {f:D} {v:V} (e:f.flat=some v):Out K F H f v H []:=⟨.ofFlat e,.inl ⟨rfl,rfl⟩⟩
theorem Out.same {K:PySem.W.Frag} {F:Addr->Prop} {H:Hp} {f:D} {v:V} (r:Rp K F H v f []):Out K F H f v H []:=⟨r,.inl ⟨rfl,rfl⟩⟩
theorem Out.list {K:PySem.W.Frag} {F:Addr->Prop} {H:Hp} {ds:List D} {vs:List V} {p:Addr} (hn:H p=none) (r:Rps K F H vs ds []):Out K F H (.lst true ds) (.ref p) (upd H p (.lst vs)) [p]:=
 ⟨.own cW (r.laid hn),.inr ⟨p,hn,.inl ⟨vs,rfl,rfl⟩⟩⟩
theorem Out.tuple {K:PySem.W.Frag} {F:Addr->Prop} {H:Hp} {ds:List D} {vs:List V} {p:Addr} (hn:H p=none) (r:Rps K F H vs ds []):Out K F H (.tup ds) (.ref p) (upd H p (.tup vs)) []:=
 ⟨.tup cW (r.laid hn),.inr ⟨p,hn,.inr ⟨vs,rfl,rfl⟩⟩⟩
def cN (K:PySem.W.Frag) (r:List V->Hp->VK->Prop) (g:List D->Option D):Prop:=
 ∀ (F:Addr->Prop) (H:Hp) (vs:List V) (ds:List D) (f:D) (Q:VK),RpB K F H vs ds->g ds=some f->(∀ v H' Lf,Out K F H f v H' Lf->Q v H')->r vs H Q
def sDo (g:List D->Option D) (os:List Opd):bU:=fun ρ Q=>eQ os ρ fun as ρ'=>∃ ds f,bG ρ' as=some ds∧g ds=some f∧Q f ρ'
theorem jf {K:PySem.W.Frag} {r:List V->Hp->VK->Prop} {g:List D->Option D} (hg:cN K r g) {os:List Opd} {σ : St} {H:Hp} {Q:VK} (h:kJ K (sDo g os) σ H Q):tK K os σ H fun vs H1=>r vs H1 Q:=by
 obtain ⟨F,ρ,Ls,R,Qd,w,q,k⟩:=h
 refine ⟨F,ρ,Ls,R,_,w,q,fun vs H1 as ρ1 F1 Ls1 La r1 w1 s1 q1=>?_⟩
 obtain ⟨ds,f,e1,e2,q1⟩:=q1
 refine hg F1 H1 vs ds f Q (r1.at w1 e1) e2 fun v H2 Lf o=>?_
 obtain ⟨rf,o⟩:=o
 have w2:=w1.less (List.sublist_append_right La R)
 have s2:=s1.more (Ld2:=[]) fun a h=>absurd h (by simp)
 rcases o with ⟨rfl,rfl⟩ | ⟨p,hn,⟨xs,rfl,rfl⟩ | ⟨xs,rfl,rfl⟩⟩
 ·exact k v _ f ρ1 F1 Ls1 [] rf w2 s2 q1
 ·exact k v _ f ρ1 F1 Ls1 [p] rf (w2.put hn) ((s2.trans (Step.laid hn)).more fun a ha=>by
   cases List.mem_singleton.mp ha
   by_cases e:∃ j,p∈Ls j
   ·exact .inl e
   ·cases q:H p with
    | none=>exact .inr rfl
    | some o=>rw [s1.keep p o q fun i z=>e ⟨i,z⟩] at hn;cases hn) q1
 ·exact k v _ f ρ1 F1 Ls1 [] rf (w2.laid hn) (s2.trans (Step.laid hn)) q1
abbrev r2 (r:R2):List V->Hp->VK->Prop:=fun vs H Q=>∃ x y,vs=[x,y]∧r x y H Q
section
variable {X:Cx} {a b:Expr} {o1 o2:Opd} {pos:Pos} {r:R2} {g:List D->Option D}
theorem aJ {op:Operator} (ho:OpR X (binaryOp op) r) (hg:cN X.K (r2 r) g) (ha:SO X a o1) (hb:SO X b o2):SE X (.BinOp a op b pos) (sDo g [o1,o2]):=
 (XQ ho ha hb).wk fun σ H Q h=>xO (jf hg h)
theorem tD {op:CmpOp} (ho:OpR X (compareOp op) r) (hg:cN X.K (r2 r) g) (ha:SO X a o1) (hb:SO X b o2) (hm:behindInMarks op b=false):SE X (.Compare a [op] [b] pos) (sDo g [o1,o2]):=
 (Rk ho ha hb hm).wk fun σ H Q h=>xO (jf hg h)
theorem iT (hr:IxR X r) (hg:cN X.K (r2 r) g) (ha:SO X a o1) (hb:SO X b o2) (hs:ut b):SE X (.Subscript a b pos) (sDo g [o1,o2]):=
 (Nm hr ha hb hs).wk fun σ H Q h=>xO (jf hg h)
theorem ie {K:PySem.W.Frag} {o:Opd} {σ : St} {H:Hp} {P P':VK} (i:∀ v H,P v H->P' v H) (h:rN K o σ H P):rN K o σ H P':=by
 cases o with
 | val s=>
  obtain ⟨F,ρ,Ls,R,Qd,w,q,k⟩:=h
  exact ⟨F,ρ,Ls,R,Qd,w,q,fun v H' d ρ' F' Ls' Ld a1 a2 a3 a4=>i _ _ (k v H' d ρ' F' Ls' Ld a1 a2 a3 a4)⟩
 | nam i'=>obtain ⟨v,e,p⟩:=h;exact ⟨v,e,i _ _ p⟩
theorem FP {K:PySem.W.Frag} {σ : St} {H:Hp} {P:VK} (h:tK K [o1] σ H fun vs H1=>∃ x,vs=[x]∧P x H1):rN K o1 σ H P:=by
 refine ie (fun v H1 q1=>?_) (dM h)
 obtain ⟨F,ρ,Ls,R,Qd,w,q,k⟩:=q1
 obtain ⟨x,e,q⟩:=k [] H1 [] ρ F Ls [] .nil w Step.refl q
 cases e
 exact q
theorem Dn {op:UnaryOp} {r:V->Hp->VK->Prop} (ho:UnR X (unaryOp op) r) (hg:cN X.K (fun vs H Q=>∃ x,vs=[x]∧r x H Q) g) (ha:SO X a o1):SE X (.UnaryOp op a pos) (sDo g [o1]):=
 (XS ho ha).wk fun σ H Q h=>FP (jf hg h)
theorem bT {x:Str} {id:String} {rr:List V->Hp->VK->Prop} {es:List Expr} {os:List Opd} {p:Pos} {e:Expr} (hc:ir X (.builtin id) rr) (hg:cN X.K rr g) (hl:Gl X x) (hm:X.mg x=none) (hv:bootBuiltins x=some (.builtin id)) (ha:SA X (e :: es) os)
  (hn:x ≠ "__name__":=by decide) (hdb:(x==("__debug__" : Str))=false:=by decide)
  (he:starEach (e :: es) X.env=(false,eval e X.env) :: starEach es X.env:=by rfl) (hpl:(backTo pos (starEach es X.env)).any (·.1)=false:=by rfl):SE X (.Call (.Name x p) (e :: es) [] pos) (sDo g os):=
 (Nh hc hl hm hv ha hn hdb he hpl).wk fun σ H Q h=>jf hg h
theorem jK {x:Str} {T:String} {rr:List V->Hp->VK->Prop} {es:List Expr} {os:List Opd} {p:Pos} {e:Expr} (hc:ir X (.type T) rr) (hg:cN X.K rr g) (hl:Gl X x) (hm:X.mg x=none) (hv:bootBuiltins x=some (.type T)) (ha:SA X (e :: es) os)
  (hn:x ≠ "__name__":=by decide) (hdb:(x==("__debug__" : Str))=false:=by decide)
  (he:starEach (e :: es) X.env=(false,eval e X.env) :: starEach es X.env:=by rfl) (hpl:(backTo pos (starEach es X.env)).any (·.1)=false:=by rfl):SE X (.Call (.Name x p) (e :: es) [] pos) (sDo g os):=
 (Jp hc hl hm hv ha hn hdb he hpl).wk fun σ H Q h=>jf hg h
end
structure Cc (X:Cx) (k:Nat):Prop where
 calm:X.calm=true
 room:Room k X.A
 tree:X.prog.given.tree=none
 seer:∃ env l,X.stack=env :: l∧env.scope.isGenerator=false∧env.scope.isCoroutine=false∧env.builtins=builtinsNs∧env.globals=mainGlobals
theorem Cc.mono {X:Cx} {j k:Nat} (c:Cc X k) (h:j<=k):Cc X j:=⟨c.calm,c.room.mono h,c.tree,c.seer⟩
abbrev bits (i:Int):Nat:=Builtin.Int.intBits i
def cI:List D->Option D
 | [.int i,.int j]=>some (.int (i+j))
 | [.str x,.str y]=>if x.length+y.length<=sizeLine then some (.str (x++y)) else none
 | [.lst _ xs,.lst _ ys]=>if xs.length+ys.length<=sizeLine∧D.shs xs=true∧D.shs ys=true then some (.lst true (xs++ys)) else none
 | [.tup xs,.tup ys]=>if xs.length+ys.length<=sizeLine∧D.shs xs=true∧D.shs ys=true then some (.tup (xs++ys)) else none
 | _=>none
section
variable {K:PySem.W.Frag} {F:Addr->Prop} {H:Hp}
theorem RpB.two {vs:List V} {d e:D} (r:RpB K F H vs [d,e]):∃ x y L M,vs=[x,y]∧Rp K F H x d L∧Rp K F H y e M:=by
 cases r with
 | cons r1 rs=>cases rs with
  | cons r2 rs=>cases rs with
   | nil=>exact ⟨_,_,_,_,rfl,r1,r2⟩
theorem RpB.one {vs:List V} {d:D} (r:RpB K F H vs [d]):∃ x L,vs=[x]∧Rp K F H x d L:=by
 cases r with
 | cons r1 rs=>cases rs with
  | nil=>exact ⟨_,_,rfl,r1⟩
theorem RpB.length:∀ {vs:List V} {ds:List D},RpB K F H vs ds->vs.length=ds.length
 | _,_,.nil=>rfl
 | _,_,.cons _ rs=>by rw [List.length_cons,List.length_cons,RpB.length rs]
theorem Rp.lst_at {v:V} {o:Bool} {ds:List D} {L:List Addr} (r:Rp K F H v (.lst o ds) L):∃ a vs M,v = .ref a∧H a=some (.lst vs)∧Rps K F H vs ds M∧(∀ b∈M,b∈L):=by
 cases r with
 | frz h f r=>exact ⟨_,_,_,rfl,h,r,fun b h=>h⟩
 | own h r=>exact ⟨_,_,_,rfl,h,r,fun b h=>List.mem_cons_of_mem _ h⟩
theorem Rp.tup_at {v:V} {ds:List D} {L:List Addr} (r:Rp K F H v (.tup ds) L):∃ a vs,v = .ref a∧SqT K H a vs∧Rps K F H vs ds L:=by
 cases r with
 | tup h r=>exact ⟨_,_,rfl,.of h,r⟩
theorem Rp.tup_in {v:V} {ds:List D} {L:List Addr} (r:Rp K F H v (.tup ds) L):∃ a vs,v = .ref a∧H a=some (.tup vs)∧Rps K F H vs ds L:=by
 cases r with
 | tup h r=>exact ⟨_,_,rfl,h,r⟩
end
section
variable {X:Cx}
theorem Nf:OpR X (binaryOp .Add) (fun x y H Q=>∃ a b ys,x = .ref a∧y = .ref b∧SqT X.K H a []∧SqT X.K H b ys∧Q (.ref b) H):=by
 intro pins s σ H x y v u Q I rx ry h
 obtain ⟨a,b,ys,rfl,rfl,ha,hb,q⟩:=h
 cases rx;cases ry
 obtain ⟨its,r,ht,hz⟩:=I.tuple ha
 obtain ⟨its2,r',ht',hz'⟩:=I.tuple hb
 have e0:its=[]:=by have:=r.length;simpa using this.symm
 subst e0
 obtain ⟨⟨cls,dd,data,sl⟩,ho,hc,n,hd⟩:=id ht
 obtain ⟨⟨cls2,dd2,data2,sl2⟩,ho2,hc2,n2,hd2⟩:=id ht'
 simp only at hc hd hc2 hd2
 subst hc hd hc2 hd2
 exact concat_meets ⟨_,ho,rfl⟩ ⟨_,ho2,rfl⟩ noFill_tuple_add seq_tuple_add PySem.F.slot_tuple_add PySem.F.entry_tuple_add (PySem.F.args_tuple_add_2 _ _)
   (tuple_addW0 a b #[] its2.toArray n n2 dd dd2 sl sl2 rfl) ⟨ho,ho2,⟨.ref b,H,I,rfl,q⟩⟩
def HB (K:PySem.W.Frag):R2:=fun x y H Q=>rI0 (fun i j=>.int (i+j)) x y H Q∨(∃ i j,x = .str i∧y = .str j∧i.length+j.length<=sizeLine∧Q (.str (i++j)) H)∨Yd x y H Q∨Tv K x y H Q ∨
 ∃ a b ys,x = .ref a∧y = .ref b∧SqT K H a []∧SqT K H b ys∧Q (.ref b) H
theorem bu:OpR X (binaryOp .Add) (HB X.K):=Vu.or (Fo.or (Vv.or (Rf.or Nf)))
theorem bI {K:PySem.W.Frag}:cN K (r2 (HB K)) cI:=by
 intro F H vs ds f Q r e q
 unfold cI at e
 split at e
 ·cases e
  obtain ⟨x,y,L,M,rfl,r1,r2⟩:=r.two
  cases r1.isInt;cases r2.isInt
  exact ⟨_,_,rfl,.inl ⟨_,_,rfl,rfl,q _ _ _ (.ofFlat rfl)⟩⟩
 ·obtain ⟨x,y,L,M,rfl,r1,r2⟩:=r.two
  cases r1.isStr;cases r2.isStr
  split at e
  ·cases e
   exact ⟨_,_,rfl,.inr (.inl ⟨_,_,rfl,rfl,by assumption,q _ _ _ (.ofFlat rfl)⟩)⟩
  ·cases e
 ·obtain ⟨x,y,L,M,rfl,r1,r2⟩:=r.two
  split at e
  ·rename_i hc
   cases e
   obtain ⟨a,vs,L1,rfl,ha,ra,_⟩:=r1.lst_at
   obtain ⟨b,ws,L2,rfl,hb,rb,_⟩:=r2.lst_at
   cases ra.sh_nil hc.2.1;cases rb.sh_nil hc.2.2
   refine ⟨_,_,rfl,.inr (.inr (.inl ⟨_,_,_,_,rfl,rfl,ha,hb,by rw [ra.length,rb.length];exact hc.1,fun p hp=>q _ _ _ (.list hp (ra.append rb))⟩))⟩
  ·cases e
 ·obtain ⟨x,y,L,M,rfl,r1,r2⟩:=r.two
  split at e
  ·rename_i hc
   cases e
   obtain ⟨a,vs,rfl,ha',ra⟩:=r1.tup_in
   obtain ⟨b,ws,rfl,hb',rb⟩:=r2.tup_in
   have ha:SqT K H a vs:=.of ha'
   have hb:SqT K H b ws:=.of hb'
   cases ra.sh_nil hc.2.1;cases rb.sh_nil hc.2.2
   refine ⟨_,_,rfl,.inr (.inr (.inr ?_))⟩
   by_cases e1:vs=[]
   ·subst e1
    have e2:=List.length_eq_zero_iff.mp (show _=0 from ra.length.symm)
    subst e2
    exact .inr ⟨_,_,_,rfl,rfl,ha,hb,q _ _ _ (.same (.tup hb' rb))⟩
   ·refine .inl ⟨_,_,_,_,rfl,rfl,ha,hb,e1,by rw [ra.length,rb.length];exact hc.1,fun e2=>?_,fun e2 p hp=>q _ _ _ (.tuple hp (ra.append rb))⟩
    subst e2
    have e3:=List.length_eq_zero_iff.mp (show _=0 from rb.length.symm)
    subst e3
    rw [List.append_nil] at q
    exact q _ _ _ (.same (.tup ha' ra))
  ·cases e
 ·cases e
end
def Ge (i j:Int):Prop:=bits i+bits j<=134217728
def iw (i j:Int):Bool:=decide (bits i+bits j<=134217728)
section
variable {X:Cx}
theorem Rg:OpR X (binaryOp .Mult) (rI Ge fun i j=>.int (i*j)):=opI fun _ _ _ _ _ _ _ c q=>mul_int q (IntMulOk.of_le (Nat.le_refl _) (Nat.le_refl _) c)
theorem jt (c:Cc X 34):OpR X (binaryOp .FloorDiv) (rI (fun _ j=>j≠0) fun i j=>.int (i.fdiv j)):=by
 intro pins s σ H x y v u Q I rx ry h
 obtain ⟨i,j,rfl,rfl,hj,q⟩:=h
 obtain ⟨t,rfl⟩:=rx
 obtain ⟨t',rfl⟩:=ry
 obtain ⟨env,l,e1,e2,e3,e4,e5⟩:=c.seer
 refine floordiv_int hj ⟨.int _,H,I.tok _,⟨_,rfl⟩,q⟩ (.inr (PylongRoom.of I.nolimit ?_ (SeerAt.of (I.ok.mod.seer.keeps I.bk) c.tree (I.ok.frames.trans (congrArg some e1)) e2 e3 e4 e5)))
 have:=c.room.dp
 show X.A.depth+100<recursionLimit
 omega
end
def dH:List D->Option D
 | [.int i,.int j]=>if iw i j=true then some (.int (i*j)) else none
 | [.lst _ xs,.int k]=>if (decide (-(2 ^ 63)<=k∧k<2 ^ 63∧xs.length*k.toNat<=sizeLine)&&D.shs xs)=true then some (.lst true (List.replicate k.toNat xs).flatten) else none
 | _=>none
theorem Rps.rep {K:PySem.W.Frag} {F:Addr->Prop} {H:Hp} {vs:List V} {ds:List D} (r:Rps K F H vs ds []):∀ n:Nat,Rps K F H (List.replicate n vs).flatten (List.replicate n ds).flatten []
 | 0=>.nil
 | n+1=>by
  rw [List.replicate_succ,List.replicate_succ,List.flatten_cons,List.flatten_cons]
  exact r.append (Rps.rep r n)
theorem bx {X:Cx}:OpR X (binaryOp .Mult) (fun x y H Q=>rI Ge (fun i j=>.int (i*j)) x y H Q∨Wd x y H Q):=Rg.or Vx
theorem bM {K:PySem.W.Frag}:cN K (r2 fun x y H Q=>rI Ge (fun i j=>.int (i*j)) x y H Q∨Wd x y H Q) dH:=by
 intro F H vs ds f Q r e q
 unfold dH at e
 split at e
 ·split at e
  ·rename_i h
   cases e
   obtain ⟨x,y,L,M,rfl,r1,r2⟩:=r.two
   cases r1.isInt;cases r2.isInt
   exact ⟨_,_,rfl,.inl ⟨_,_,rfl,rfl,(by unfold iw at h;unfold Ge;exact of_decide_eq_true h),q _ _ _ (.ofFlat rfl)⟩⟩
  ·cases e
 ·split at e
  ·rename_i h
   cases e
   rw [Bool.and_eq_true,decide_eq_true_eq] at h
   obtain ⟨⟨h1,h2,h3⟩,h4⟩:=h
   obtain ⟨x,y,L,M,rfl,r1,r2⟩:=r.two
   cases r2.isInt
   obtain ⟨a,vs,L1,rfl,ha,ra,_⟩:=r1.lst_at
   cases ra.sh_nil h4
   refine ⟨_,_,rfl,.inr ⟨_,_,_,rfl,rfl,ha,h1,h2,by rw [ra.length];exact h3,fun p hp=>q _ _ _ (.list hp (ra.rep _))⟩⟩
  ·cases e
 ·cases e
def dO (d:D):Bool:=SeqAt.shaped d.dat
def dEq:List D->Option D
 | [d,e]=>if (dO d&&dO e)=true then some (.bl (PyData.eqv d.dat e.dat)) else none
 | _=>none
def dNe:List D->Option D
 | [d,e]=>if (dO d&&dO e)=true then some (.bl (!PyData.eqv d.dat e.dat)) else none
 | _=>none
theorem jE {K:PySem.W.Frag}:cN K (r2 (Ye K)) dEq:=by
 intro F H vs ds f Q r e q
 unfold dEq at e
 split at e
 ·split at e
  ·rename_i h
   cases e
   rw [Bool.and_eq_true] at h
   obtain ⟨x,y,L,M,rfl,r1,r2⟩:=r.two
   exact ⟨_,_,rfl,_,_,r1.dp (D.pl_of _ (SeqAt.canLay_of_shaped h.1)),r2.dp (D.pl_of _ (SeqAt.canLay_of_shaped h.2)),h.1,h.2,q _ _ _ (.ofFlat rfl)⟩
  ·cases e
 ·cases e
theorem lu {K:PySem.W.Frag}:cN K (r2 (Yj K)) dNe:=by
 intro F H vs ds f Q r e q
 unfold dNe at e
 split at e
 ·split at e
  ·rename_i h
   cases e
   rw [Bool.and_eq_true] at h
   obtain ⟨x,y,L,M,rfl,r1,r2⟩:=r.two
   exact ⟨_,_,rfl,_,_,r1.dp (D.pl_of _ (SeqAt.canLay_of_shaped h.1)),r2.dp (D.pl_of _ (SeqAt.canLay_of_shaped h.2)),h.1,h.2,q _ _ _ (.ofFlat rfl)⟩
  ·cases e
 ·cases e
def D.isNon:D->Bool
 | .non=>true
 | _=>false
def Qg:List D->Option D
 | [d,.non]=>some (.bl d.isNon)
 | _=>none
def Xl:List D->Option D
 | [d,.non]=>some (.bl (!d.isNon))
 | _=>none
theorem Rp.isNon {K:PySem.W.Frag} {F:Addr->Prop} {H:Hp} {v:V} {d:D} {L:List Addr} (r:Rp K F H v d L):decide (v = .non)=d.isNon:=by
 cases r <;> simp [D.isNon]
theorem Km {K:PySem.W.Frag}:cN K (r2 fun x y H Q=>y = .non∧Q (.bl (decide (x = .non))) H) Qg:=by
 intro F H vs ds f Q r e q
 unfold Qg at e
 split at e
 ·cases e
  obtain ⟨x,y,L,M,rfl,r1,r2⟩:=r.two
  cases r2
  exact ⟨_,_,rfl,rfl,by rw [r1.isNon];exact q _ _ _ (.ofFlat rfl)⟩
 ·cases e
def dIx:List D->Option D
 | [.lst _ ds,.int k]=>(atI ds k).bind fun d=>if d.sh=true then some d else none
 | [.tup ds,.int k]=>(atI ds k).bind fun d=>if d.sh=true then some d else none
 | [.scr ns,.int k]=>(atI ns k).map D.int
 | [.str z,.int k]=>if z.length<=sizeLine then (atI z.cps.toList k).map fun c=>.str ⟨#[c]⟩ else none
 | _=>none
theorem Rps.atI {K:PySem.W.Frag} {F:Addr->Prop} {H:Hp} {vs:List V} {ds:List D} {L:List Addr} {k:Int} {d:D} (r:Rps K F H vs ds L) (e:L2.atI ds k=some d):∃ v M,L2.atI vs k=some v∧Rp K F H v d M:=by
 unfold L2.atI at e ⊢
 rw [r.length]
 cases h:ixN ds.length k with
 | none=>rw [h] at e;cases e
 | some j=>
  rw [h] at e
  obtain ⟨v,M,h1,h2,_⟩:=r.get e
  exact ⟨v,M,h1,h2⟩
theorem PP {α β : Type} (g : α -> β) (xs:List α) (k:Int):atI (xs.map g) k=(atI xs k).map g:=by
 unfold atI
 rw [List.length_map]
 cases ixN xs.length k with
 | none=>rfl
 | some j=>simp
theorem fP {K:PySem.W.Frag}:cN K (r2 (rIx K)) dIx:=by
 intro F H vs ds f Q r e q
 unfold dIx at e
 split at e
 ·obtain ⟨x,y,L,M,rfl,r1,r2⟩:=r.two
  cases r2.isInt
  obtain ⟨d,e1,e2⟩:=Option.bind_eq_some_iff.mp e
  split at e2
  ·rename_i hs
   cases e2
   obtain ⟨a,vs,L1,rfl,ha,ra,_⟩:=r1.lst_at
   obtain ⟨v,N,h1,h2⟩:=ra.atI e1
   cases h2.sh_nil hs
   exact ⟨_,_,rfl,.inl ⟨_,_,_,_,rfl,rfl,.of ha,h1,q _ _ _ (.same h2)⟩⟩
  ·cases e2
 ·obtain ⟨x,y,L,M,rfl,r1,r2⟩:=r.two
  cases r2.isInt
  obtain ⟨d,e1,e2⟩:=Option.bind_eq_some_iff.mp e
  split at e2
  ·rename_i hs
   cases e2
   obtain ⟨a,vs,rfl,ha,ra⟩:=r1.tup_at
   obtain ⟨v,N,h1,h2⟩:=ra.atI e1
   cases h2.sh_nil hs
   exact ⟨_,_,rfl,.inr (.inl ⟨_,_,_,_,rfl,rfl,ha,h1,q _ _ _ (.same h2)⟩)⟩
  ·cases e2
 ·obtain ⟨x,y,L,M,rfl,r1,r2⟩:=r.two
  cases r2.isInt
  obtain ⟨n,e1,rfl⟩:=Option.map_eq_some_iff.mp e
  cases r1 with
  | scr h=>exact ⟨_,_,rfl,.inl ⟨_,_,_,_,rfl,rfl,h.sq,by rw [PP,e1];rfl,q _ _ _ (.ofFlat rfl)⟩⟩
 ·obtain ⟨x,y,L,M,rfl,r1,r2⟩:=r.two
  cases r1.isStr
  cases r2.isInt
  split at e
  ·rename_i hz
   obtain ⟨n,e1,rfl⟩:=Option.map_eq_some_iff.mp e
   exact ⟨_,_,rfl,.inr (.inr ⟨_,_,_,rfl,rfl,hz,e1,q _ _ _ (.ofFlat rfl)⟩)⟩
  ·cases e
 ·cases e
def lL:List D->Option D
 | [.lst _ ds]=>some (.int ds.length)
 | [.tup ds]=>some (.int ds.length)
 | [.scr ns]=>some (.int ns.length)
 | [.str z]=>if z.length<=sizeLine then some (.int z.length) else none
 | _=>none
def Yi (K:PySem.W.Frag):List V->Hp->VK->Prop:=fun xs H Q=>(∃ p ys,xs=[.ref p]∧(SqL K H p ys∨SqT K H p ys)∧Q (.int ys.length) H) ∨ ∃ z,xs=[.str z]∧z.length<=sizeLine∧Q (.int z.length) H
theorem cY {X:Cx}:ir X (.builtin "len") (Yi X.K):=yW.or yX
theorem fY {K:PySem.W.Frag}:cN K (Yi K) lL:=by
 intro F H vs ds f Q r e q
 unfold lL at e
 split at e
 ·cases e
  obtain ⟨x,L,rfl,r1⟩:=r.one
  obtain ⟨a,vs,L1,rfl,ha,ra,_⟩:=r1.lst_at
  exact .inl ⟨_,_,rfl,.inl (.of ha),by rw [ra.length];exact q _ _ _ (.ofFlat rfl)⟩
 ·cases e
  obtain ⟨x,L,rfl,r1⟩:=r.one
  obtain ⟨a,vs,rfl,ha,ra⟩:=r1.tup_at
  exact .inl ⟨_,_,rfl,.inr ha,by rw [ra.length];exact q _ _ _ (.ofFlat rfl)⟩
 ·cases e
  obtain ⟨x,L,rfl,r1⟩:=r.one
  cases r1 with
  | scr h=>exact .inl ⟨_,_,rfl,.inl h.sq,by rw [List.length_map];exact q _ _ _ (.ofFlat rfl)⟩
 ·obtain ⟨x,L,rfl,r1⟩:=r.one
  cases r1.isStr
  split at e
  ·rename_i hz
   cases e
   exact .inr ⟨_,rfl,hz,q _ _ _ (.ofFlat rfl)⟩
  ·cases e
 ·cases e
end L2
namespace L2
open PySem PySem.Spec PyProof.Rows
abbrev fB:=En->(Bool->En->Prop)->Prop
def qy (K:PySem.W.Frag) (t:fB):TT:=fun σ H Q=>∃ F ρ Ls R Qd,WS K F H σ ρ Ls R∧t ρ Qd ∧
 ∀ b H' ρ' F' Ls',WS K F' H' σ ρ' Ls' R->Step F H Ls F' H' Ls' []->Qd b ρ'->Q b H'
def SB (X:Cx) (e:Expr) (t:fB):Prop:=PT X e (qy X.K t)
def SW (X:Cx) (e:Expr) (t:fB):Prop:=PW X e (qy X.K t)
theorem SW.b {X:Cx} {e:Expr} {t:fB} (h:SW X e t):SB X e t:=PW.pt h
def D.tru:D->Option Bool
 | .non=>some false
 | .bl b=>some b
 | .int i=>some (i != 0)
 | .str x=>if x.length<=sizeLine then some ((x.length:Int) != 0) else none
 | .tup ds=>some (!ds.isEmpty)
 | .lst _ ds=>some (!ds.isEmpty)
 | .scr ns=>some (!ns.isEmpty)
 | .ty _=>none
 | .xc _ _=>none
 | .fn _=>none
theorem Rps.empty {K:PySem.W.Frag} {F:Addr->Prop} {H:Hp} {vs:List V} {ds:List D} {L:List Addr} (r:Rps K F H vs ds L):ds.isEmpty=vs.isEmpty:=by
 have e:=r.length
 cases vs <;> cases ds <;> simp_all
theorem Rp.tru {K:PySem.W.Frag} {F:Addr->Prop} {H:Hp} {v:V} {d:D} {L:List Addr} {b:Bool} (r:Rp K F H v d L) (e:d.tru=some b):Ua K v H b:=by
 cases r with
 | non=>cases e;rfl
 | bl c=>cases e;rfl
 | int i=>cases e;rfl
 | str x=>
  have e':(if x.length<=sizeLine then some ((x.length:Int) != 0) else none)=some b:=e
  by_cases hz:x.length<=sizeLine
  ·rw [if_pos hz] at e';cases e';exact ⟨hz,rfl⟩
  ·rw [if_neg hz] at e';cases e'
 | ty n=>cases e
 | xc _ _ _=>cases e
 | fn _=>cases e
 | tup h r=>cases e;exact .inr (.inl ⟨_,.of h,by rw [r.empty]⟩)
 | scr h=>cases e;exact .inl ⟨_,h.sq,by simp⟩
 | frz h f r=>cases e;exact .inl ⟨_,.of h,by rw [r.empty]⟩
 | own h r=>cases e;exact .inl ⟨_,.of h,by rw [r.empty]⟩
def ph (o:Opd):fB:=fun ρ Q=>eQ [o] ρ fun as ρ'=>∃ d b,bG ρ' as=some [d]∧d.tru=some b∧Q b ρ'
def tB' (s:bU):fB:=fun ρ Q=>s ρ fun d ρ'=>∃ b,d = .bl b∧Q b ρ'
def Yy (t u:fB):fB:=fun ρ Q=>t ρ fun b ρ'=>if b=true then u ρ' Q else Q false ρ'
def Du (t u:fB):fB:=fun ρ Q=>t ρ fun b ρ'=>if b=true then Q true ρ' else u ρ' Q
def kI (t:fB):fB:=fun ρ Q=>t ρ fun b ρ'=>Q (!b) ρ'
section
variable {X:Cx} {a b:Expr} {o o1 o2:Opd} {pos:Pos} {t u:fB} {K:PySem.W.Frag} {σ : St} {H:Hp} {rest:List Expr}
theorem jy (h:SO X a o) (he:∀ whole,isTrue a X.env whole=(do let v ← whole;standAt a.pos;holding [v] (truthy v)):=by intro _;rfl):SB X a (ph o):=
 (Nz h he).wk fun σ H Q ⟨F,ρ,Ls,R,Qd,w,q,k⟩=>FP ⟨F,ρ,Ls,R,_,w,q,fun vs H1 as ρ1 F1 Ls1 La r1 w1 s1 ⟨d,b,e1,e2,q1⟩=>by
  obtain ⟨x,L,rfl,rx⟩:=(r1.at w1 e1).one
  exact ⟨x,rfl,b,rx.tru e2,k b H1 ρ1 F1 Ls1 (w1.less (List.sublist_append_right _ _)) (s1.more fun a h=>absurd h (by simp)) q1⟩⟩
theorem YK {s:bU} {Q:Bool->Hp->Prop} (h:qy K (tB' s) σ H Q):kJ K s σ H fun x H'=>∃ k,x = .bl k∧Q k H':=by
 obtain ⟨F,ρ,Ls,R,Qd,w,q,k⟩:=h
 refine ⟨F,ρ,Ls,R,_,w,q,fun v H1 d ρ1 F1 Ls1 Ld r1 w1 s1 ⟨b,e,q1⟩=>?_⟩
 subst e
 cases r1
 exact ⟨b,rfl,k b H1 ρ1 F1 Ls1 w1 s1 q1⟩
theorem fV {op:CmpOp} {r:R2} {g:List D->Option D} (ho:OpR X (compareOp op) r) (hg:cN X.K (r2 r) g) (ha:SO X a o1) (hb:SO X b o2) (hm:behindInMarks op b=false):SB X (.Compare a [op] [b] pos) (tB' (sDo g [o1,o2])):=
 (Ry ho ha hb hm).wk fun σ H Q h=>xO (jf hg (YK h))
theorem Pb {t:fB} {k:Bool->fB} {Q:Bool->Hp->Prop} (h:qy K (fun ρ Q=>t ρ fun b ρ'=>k b ρ' Q) σ H Q):qy K t σ H fun c H1=>qy K (k c) σ H1 Q:=by
 obtain ⟨F,ρ,Ls,R,Qd,w,q,kk⟩:=h
 exact ⟨F,ρ,Ls,R,_,w,q,fun c H1 ρ1 F1 Ls1 w1 s1 q1=>⟨F1,ρ1,Ls1,R,_,w1,q1,fun b H2 ρ2 F2 Ls2 w2 s2 q2=>kk b H2 ρ2 F2 Ls2 w2 (s1.trans s2) q2⟩⟩
theorem Ak {b:Bool} {Q:Bool->Hp->Prop} (h:qy K (fun ρ Q=>Q b ρ) σ H Q):Q b H:=by
 obtain ⟨F,ρ,Ls,R,Qd,w,q,kk⟩:=h
 exact kk b H ρ F Ls w Step.refl q
theorem Al {t:fB} {P P':Bool->Hp->Prop} (h:qy K t σ H P) (i:∀ b H,P b H->P' b H):qy K t σ H P':=by
 obtain ⟨F,ρ,Ls,R,Qd,w,q,k⟩:=h
 exact ⟨F,ρ,Ls,R,Qd,w,q,fun b H' ρ' F' Ls' a1 a2 a3=>i _ _ (k b H' ρ' F' Ls' a1 a2 a3)⟩
theorem Ai (ha:SB X a t):SW X (.BoolOp .Or [a] pos) t:=Wc ha
theorem Dt (ha:SB X a t) (hb:SW X (.BoolOp .Or (b :: rest) pos) u):SW X (.BoolOp .Or (a :: b :: rest) pos) (Du t u):=
 (Yc ha hb).wk fun σ H Q h=>Al (Pb (k:=fun b ρ Q=>if b=true then Q true ρ else u ρ Q) h) fun b H q=>by
  cases b with
  | false=>simpa using q
  | true=>simpa using Ak (by simpa using q)
theorem jY (ha:SB X a t):SB X (.UnaryOp .Not a pos) (kI t):=
 (Wb ha).wk fun σ H Q h=>Al (Pb (k:=fun b ρ Q=>Q (!b) ρ) h) fun b H q=>Ak q
end
def wX (s u:bU):bU:=fun ρ Q=>s ρ fun d ρ'=>∃ c,d = .bl c∧if c=true then u ρ' Q else Q (.bl false) ρ'
def RJ (s u:bU):bU:=fun ρ Q=>s ρ fun d ρ'=>∃ c,d = .bl c∧if c=true then Q (.bl true) ρ' else u ρ' Q
def Dj (s:bU):bU:=fun ρ Q=>s ρ fun d ρ'=>∃ c,d = .bl c∧Q (.bl (!c)) ρ'
def RG (t:fB) (s u:bU):bU:=fun ρ Q=>t ρ fun c ρ'=>if c=true then s ρ' Q else u ρ' Q
section
variable {X:Cx} {a b c:Expr} {pos:Pos} {s u:bU} {t:fB} {rest:List Expr} {K:PySem.W.Frag} {σ : St} {H:Hp}
theorem uN {s:bU} {P P':VK} (h:kJ K s σ H P) (i:∀ v H,P v H->P' v H):kJ K s σ H P':=by
 obtain ⟨F,ρ,Ls,R,Qd,w,q,k⟩:=h
 exact ⟨F,ρ,Ls,R,Qd,w,q,fun v H' d ρ' F' Ls' Ld a1 a2 a3 a4=>i _ _ (k v H' d ρ' F' Ls' Ld a1 a2 a3 a4)⟩
theorem Aj {s:bU} {k:Bool->bU} {Q:VK} (h:kJ K (fun ρ Q=>s ρ fun d ρ'=>∃ c,d = .bl c∧k c ρ' Q) σ H Q):kJ K s σ H fun x H1=>∃ c,x = .bl c∧kJ K (k c) σ H1 Q:=by
 obtain ⟨F,ρ,Ls,R,Qd,w,q,kk⟩:=h
 refine ⟨F,ρ,Ls,R,_,w,q,fun v H1 d ρ1 F1 Ls1 Ld r1 w1 s1 ⟨c,e,q1⟩=>?_⟩
 subst e
 cases r1
 exact ⟨c,rfl,F1,ρ1,Ls1,R,_,w1,q1,fun v2 H2 d2 ρ2 F2 Ls2 Ld2 r2 w2 s2 q2=>kk v2 H2 d2 ρ2 F2 Ls2 Ld2 r2 w2 (s1.trans s2) q2⟩
theorem Su {t:fB} {k:Bool->bU} {Q:VK} (h:kJ K (fun ρ Q=>t ρ fun c ρ'=>k c ρ' Q) σ H Q):qy K t σ H fun c H1=>kJ K (k c) σ H1 Q:=by
 obtain ⟨F,ρ,Ls,R,Qd,w,q,kk⟩:=h
 exact ⟨F,ρ,Ls,R,_,w,q,fun c H1 ρ1 F1 Ls1 w1 s1 q1=>⟨F1,ρ1,Ls1,R,_,w1,q1,fun v2 H2 d2 ρ2 F2 Ls2 Ld2 r2 w2 s2 q2=>kk v2 H2 d2 ρ2 F2 Ls2 Ld2 r2 w2 (s1.trans s2) q2⟩⟩
theorem rD {op} (h:SE X a s):SE X (.BoolOp op [a] pos) s:=VJ h
theorem Ac (ha:SE X a s) (hb:SE X (.BoolOp .And (b :: rest) pos) u):SE X (.BoolOp .And (a :: b :: rest) pos) (wX s u):=
 (Vz ha hb).wk fun σ H Q h=>uN (Aj (k:=fun c ρ Q=>if c=true then u ρ Q else Q (.bl false) ρ) h) fun v H ⟨c,e,q⟩=>by
  refine ⟨c,e,?_⟩
  cases c with
  | true=>simpa using q
  | false=>exact kO (d:=.bl false) rfl q
theorem Yt (ha:SE X a s) (hb:SE X (.BoolOp .Or (b :: rest) pos) u):SE X (.BoolOp .Or (a :: b :: rest) pos) (RJ s u):=
 (XR ha hb).wk fun σ H Q h=>uN (Aj (k:=fun c ρ Q=>if c=true then Q (.bl true) ρ else u ρ Q) h) fun v H ⟨c,e,q⟩=>by
  refine ⟨c,e,?_⟩
  cases c with
  | false=>simpa using q
  | true=>exact kO (d:=.bl true) rfl q
theorem Ob (ha:SE X a s):SE X (.UnaryOp .Not a pos) (Dj s):=
 (VH ha).wk fun σ H Q h=>uN (Aj (k:=fun c ρ Q=>Q (.bl (!c)) ρ) h) fun v H ⟨c,e,q⟩=>⟨c,e,kO (d:=.bl (!c)) rfl q⟩
theorem TJ (hc:SB X c t) (ha:SE X a s) (hb:SE X b u):SE X (.IfExp c a b pos) (RG t s u):=
 (Nj hc ha hb).wk fun σ H Q h=>Al (Su (k:=fun c ρ Q=>if c=true then s ρ Q else u ρ Q) h) fun c H q=>by
  cases c with
  | true=>simpa using q
  | false=>simpa using q
end
def cQ (ρ : En):List AD->Bool
 | []=>true
 | .val _ :: as=>cQ ρ as
 | .nam i :: as=>(match ρ[i]? with | some (some d)=>d.sh | _=>true)&&cQ ρ as
section
variable {K:PySem.W.Frag} {F:Addr->Prop} {H:Hp} {σ : St} {ρ : En} {Ls:Nat->List Addr} {R:List Addr}
theorem lw {a:AD} {as:List AD} {es:List D} (e:bG ρ (a :: as)=some es):∃ d ds,a.get ρ = some d∧bG ρ as=some ds∧es=d :: ds:=by
 rw [bG] at e
 cases h1:a.get ρ with
 | none=>rw [h1] at e;simp at e
 | some d=>
  cases h2:bG ρ as with
  | none=>rw [h1,h2] at e;simp at e
  | some ds=>rw [h1,h2] at e;simp at e;exact ⟨d,ds,rfl,rfl,e.symm⟩
theorem Hj {i:Nat} {d:D} (e:AD.get ρ (.nam i)=some d) : ρ[i]? = some (some d):=by
 have e:(ρ[i]?).getD none=some d:=e
 cases h : ρ[i]? with
 | none=>rw [h] at e;simp at e
 | some o=>rw [h] at e;simp at e;rw [e]
theorem RpA.all (w:WS K F H σ ρ Ls R):∀ {vs:List V} {as:List AD} {La:List Addr} {ds:List D},RpA K F H σ vs as La->bG ρ as=some ds->cQ ρ as=true->Rps K F H vs ds La
 | _,_,_,_,.nil,e,_=>by cases e;exact .nil
 | _,_,_,_,.val r rs,e,h=>by
  obtain ⟨d,ds,e1,e2,rfl⟩:=lw e
  cases e1
  exact .cons r (RpA.all w rs e2 h)
 | _,_,_,_,.nam (i:=i) hi rs,e,h=>by
  obtain ⟨d,ds,e1,e2,rfl⟩:=lw e
  have e3:=Hj e1
  rw [cQ,e3,Bool.and_eq_true] at h
  obtain ⟨v,hv,r⟩:=w.sl i d e3
  rw [hi] at hv
  cases hv
  have r':=r;rw [r.sh_nil h.1] at r'
  exact .cons (L:=[]) r' (RpA.all w rs e2 h.2)
end
def gH (os:List Opd):bU:=fun ρ Q=>eQ os ρ fun as ρ'=>∃ ds,bG ρ' as=some ds∧cQ ρ' as=true∧ds.length<=sizeLine∧Q (.tup ds) ρ'
def fH (os:List Opd):bU:=fun ρ Q=>eQ os ρ fun as ρ'=>∃ ds,bG ρ' as=some ds∧cQ ρ' as=true∧ds.length<=sizeLine∧Q (.lst true ds) ρ'
section
variable {X:Cx} {es:List Expr} {os:List Opd} {pos:Pos}
theorem fJ {x1} (h:SA X es os):SE X (.Tuple es x1 pos) (gH os):=
 (VL h).wk fun σ H Q ⟨F,ρ,Ls,R,Qd,w,q,k⟩=>⟨F,ρ,Ls,R,_,w,q,fun vs H1 as ρ1 F1 Ls1 La r1 w1 s1 ⟨ds,e1,e2,e3,q1⟩=>by
  have rs:=r1.all w1 e1 e2
  refine ⟨by rw [rs.length];exact e3,fun p hp=>?_⟩
  exact k (.ref p) _ (.tup ds) ρ1 F1 Ls1 La (.tup cW (rs.laid hp)) (w1.laid hp) ((s1.trans (Step.laid hp)).more s1.srcD) q1⟩
theorem gf (h:SA X es os):SE X (.List es pos) (fH os):=
 (VF h).wk fun σ H Q ⟨F,ρ,Ls,R,Qd,w,q,k⟩=>⟨F,ρ,Ls,R,_,w,q,fun vs H1 as ρ1 F1 Ls1 La r1 w1 s1 ⟨ds,e1,e2,e3,q1⟩=>by
  have rs:=r1.all w1 e1 e2
  refine ⟨by rw [rs.length];exact e3,fun p hp=>?_⟩
  refine k (.ref p) _ (.lst true ds) ρ1 F1 Ls1 (p :: La) (.own cW (rs.laid hp)) (w1.put hp) ((s1.trans (Step.laid hp)).more fun a ha=>?_) q1
  rcases List.mem_cons.mp ha with rfl | ha
  ·by_cases e:∃ j,a∈Ls j
   ·exact .inl e
   ·cases q:H a with
    | none=>exact .inr rfl
    | some o=>rw [s1.keep a o q fun i z=>e ⟨i,z⟩] at hp;cases hp
  ·exact s1.srcD a ha⟩
end
end L2
namespace L2
open PySem PySem.Spec PyProof.Rows
structure EndD where
 nx:En->Prop
 rt:D->En->Prop
 bk:En->Prop:=fun _=>False
 ct:En->Prop:=fun _=>False
abbrev cD:=En->EndD->Prop
def PN (K:PySem.W.Frag) (kp:Nat->Bool) (F:Addr->Prop) (H:Hp) (σ : St) (Ls:Nat->List Addr) (R:List Addr) (P:En->Prop) (P':St->Hp->Prop):Prop:=
 ∀ σ' H' ρ' F' Ls',WS K F' H' σ' ρ' Ls' R->Step F H Ls F' H' Ls' []->(∀ z,kp z=true -> σ'[z]? = σ[z]?)->P ρ'->P' σ' H'
def PR (K:PySem.W.Frag) (kp:Nat->Bool) (F:Addr->Prop) (H:Hp) (σ : St) (Ls:Nat->List Addr) (R:List Addr) (P:D->En->Prop) (P':VK):Prop:=
 ∀ v σ' H' d ρ' F' Ls' Ld,Rp K F' H' v d Ld->WS K F' H' σ' ρ' Ls' (Ld++R)->Step F H Ls F' H' Ls' Ld->(∀ z,kp z=true -> σ'[z]? = σ[z]?)->P d ρ'->P' v H'
structure PEnds (K:PySem.W.Frag) (kp:Nat->Bool) (F:Addr->Prop) (H:Hp) (σ : St) (Ls:Nat->List Addr) (R:List Addr) (E:EndD) (D:Ends):Prop where
 nx:PN K kp F H σ Ls R E.nx D.nx
 rt:PR K kp F H σ Ls R E.rt D.rt
 bk:PN K kp F H σ Ls R E.bk D.bk
 ct:PN K kp F H σ Ls R E.ct D.ct
def WL (K:PySem.W.Frag) (kp:Nat->Bool) (s:cD):TS:=fun D σ H=>∃ F ρ Ls R E,WS K F H σ ρ Ls R∧s ρ E∧PEnds K kp F H σ Ls R E D
def SS (X:Cx) (kp:Nat->Bool) (st:Stmt) (s:cD):Prop:=PS X st (WL X.K kp s)
def SL (X:Cx) (kp:Nat->Bool) (st:List Stmt) (s:cD):Prop:=PSs X st (WL X.K kp s)
section
variable {K:PySem.W.Frag} {kp:Nat->Bool} {F F1:Addr->Prop} {H H1:Hp} {σ σ1:St} {Ls Ls1:Nat->List Addr} {R Ld:List Addr}
theorem PN.step {P:En->Prop} {P':St->Hp->Prop} (p:PN K kp F H σ Ls R P P') (s:Step F H Ls F1 H1 Ls1 Ld) (e:∀ z,kp z=true -> σ1[z]? = σ[z]?):PN K kp F1 H1 σ1 Ls1 R P P':=
 fun σ' H' ρ' F' Ls' w st e' q=>p σ' H' ρ' F' Ls' w (s.trans st) (fun z h=>(e' z h).trans (e z h)) q
theorem PR.step {P:D->En->Prop} {P':VK} (p:PR K kp F H σ Ls R P P') (s:Step F H Ls F1 H1 Ls1 Ld) (e:∀ z,kp z=true -> σ1[z]? = σ[z]?):PR K kp F1 H1 σ1 Ls1 R P P':=
 fun v σ' H' d ρ' F' Ls' Ld r w st e' q=>p v σ' H' d ρ' F' Ls' Ld r w (s.trans st) (fun z h=>(e' z h).trans (e z h)) q
theorem PEnds.step {E:EndD} {D:Ends} (p:PEnds K kp F H σ Ls R E D) (s:Step F H Ls F1 H1 Ls1 Ld) (e:∀ z,kp z=true -> σ1[z]? = σ[z]?):PEnds K kp F1 H1 σ1 Ls1 R E D:=
 ⟨p.nx.step s e,p.rt.step s e,p.bk.step s e,p.ct.step s e⟩
end
def eO:cD:=fun ρ E=>E.nx ρ
def aR (s u:cD):cD:=fun ρ E=>s ρ { E with nx:=fun ρ'=>u ρ' E }
section
variable {X:Cx} {kp:Nat->Bool} {st:Stmt} {rest:List Stmt} {s u:cD} {pos:Pos}
theorem fj:SL X kp [] eO:=Rw.wk fun D σ H ⟨F,ρ,Ls,R,E,w,q,p⟩=>p.nx σ H ρ F Ls w Step.refl (fun _ _=>rfl) q
theorem aA (h1:SS X kp st s) (h2:SL X kp rest u):SL X kp (st :: rest) (aR s u):=
 (Ny h1 h2).wk fun D σ H ⟨F,ρ,Ls,R,E,w,q,p⟩=>⟨F,ρ,Ls,R,_,w,q,
  ⟨fun σ' H' ρ' F' Ls' w' s' e' q'=>⟨F',ρ',Ls',R,E,w',q',p.step s' e'⟩,p.rt,p.bk,p.ct⟩⟩
theorem aQ (h1:SS X kp st s):SL X kp [st] s:=Rx h1
def Wq:cD:=fun ρ E=>E.bk ρ
def Yq:cD:=fun ρ E=>E.ct ρ
def lQ:cD:=fun _ _=>False
theorem mJ:SS X kp st lQ:=Nu.wk fun D σ H ⟨F,ρ,Ls,R,E,w,q,p⟩=>q.elim
def sIf (t:fB) (s u:cD):cD:=fun ρ E=>t ρ fun b ρ'=>if b=true then s ρ' E else u ρ' E
theorem gR {c:Expr} {a b:List Stmt} {t:fB} (hc:SB X c t) (ha:SL X kp a s) (hb:SL X kp b u):SS X kp (.If c a b pos) (sIf t s u):=
 (Yb hc ha hb).wk fun D σ H ⟨F,ρ,Ls,R,E,w,q,p⟩=>⟨F,ρ,Ls,R,_,w,q,fun b H1 ρ1 F1 Ls1 w1 s1 q1=>by
  cases b with
  | true=>rw [if_pos rfl] at q1 ⊢;exact ⟨F1,ρ1,Ls1,R,E,w1,q1,p.step s1 fun _ _=>rfl⟩
  | false=>rw [if_neg Bool.false_ne_true] at q1 ⊢;exact ⟨F1,ρ1,Ls1,R,E,w1,q1,p.step s1 fun _ _=>rfl⟩⟩
def iM (e:bU):cD:=fun ρ E=>e ρ fun _ ρ'=>E.nx ρ'
theorem jm {e:Expr} {se:bU} (he:SE X e se) (hs:swapsWith e none pos.line X.env=pure false:=by rfl):SS X kp (.Expr e pos) (iM se):=
 (Rv he hs).wk fun D σ H ⟨F,ρ,Ls,R,E,w,q,p⟩=>⟨F,ρ,Ls,R,_,w,q,fun v H1 d ρ1 F1 Ls1 Ld r1 w1 s1 q1=>
  p.nx σ H1 ρ1 F1 Ls1 (w1.less (List.sublist_append_right _ _)) (s1.more fun a h=>absurd h (by simp)) (fun _ _=>rfl) q1⟩
def cT (e:bU):cD:=fun ρ E=>e ρ fun d ρ'=>E.rt d ρ'
theorem bO {e:Expr} {se:bU} (he:SE X e se):SS X kp (.Return (some e) pos) (cT se):=
 (Nv he).wk fun D σ H ⟨F,ρ,Ls,R,E,w,q,p⟩=>⟨F,ρ,Ls,R,_,w,q,fun v H1 d ρ1 F1 Ls1 Ld r1 w1 s1 q1=>p.rt v σ H1 d ρ1 F1 Ls1 Ld r1 w1 s1 (fun _ _=>rfl) q1⟩
def Yr:cD:=fun ρ E=>E.rt .non ρ
end
def putL (n:Nat) (Ls:Nat->List Addr) (i:Nat) (L:List Addr):Nat->List Addr:=if i<n then kY Ls i L else Ls
section
variable {K:PySem.W.Frag} {F:Addr->Prop} {H:Hp} {σ : St} {ρ : En} {Ls:Nat->List Addr} {R Ld:List Addr}
theorem WS.set {i:Nat} {v:V} {d:D} (w:WS K F H σ ρ Ls (Ld++R)) (r:Rp K F H v d Ld):WS K F H (σ.set i (some v)) (ρ.set i (some d)) (putL ρ.length Ls i Ld) R:=by
 unfold putL
 by_cases hi:i < ρ.length
 ·rw [if_pos hi]
  have hR:=List.nodup_append.mp w.rd
  exact {
   len:=by rw [List.length_set,List.length_set];exact w.len
   sl:=fun j d' e'=>by
    by_cases h:j=i
    ·subst h
     rw [List.getElem?_set_self hi] at e'
     cases e'
     exact ⟨v,by rw [List.getElem?_set_self (by rw [← w.len];exact hi)],by rw [aY];exact r⟩
    ·rw [List.getElem?_set_ne (Ne.symm h)] at e'
     obtain ⟨u,h1,h2⟩:=w.sl j d' e'
     exact ⟨u,by rw [List.getElem?_set_ne (Ne.symm h)];exact h1,by rw [bB h];exact h2⟩
   em:=fun j h=>by
    by_cases hj:j=i
    ·subst hj
     exact absurd (List.getElem?_set_self hi) (h d)
    ·rw [bB hj]
     exact w.em j fun d' z=>h d' (by rw [List.getElem?_set_ne (Ne.symm hj)];exact z)
   nd:=fun j=>by
    by_cases hj:j=i
    ·rw [hj,aY];exact hR.1
    ·rw [bB hj];exact w.nd j
   dj:=fun j k a h1 h2=>by
    by_cases hj:j=i
    ·by_cases hk:k=i
     ·rw [hj,hk]
     ·rw [hj,aY] at h1;rw [bB hk] at h2
      exact absurd (List.mem_append_left _ h1) (w.rj k a h2)
    ·by_cases hk:k=i
     ·rw [hk,aY] at h2;rw [bB hj] at h1
      exact absurd (List.mem_append_left _ h2) (w.rj j a h1)
     ·rw [bB hj] at h1;rw [bB hk] at h2;exact w.dj j k a h1 h2
   rd:=hR.2.1
   rj:=fun j a h z=>by
    by_cases hj:j=i
    ·rw [hj,aY] at h;exact hR.2.2 a h a z rfl
    ·rw [bB hj] at h;exact w.rj j a h (List.mem_append_right _ z)
   nf:=fun j a h=>by
    by_cases hj:j=i
    ·rw [hj,aY] at h;exact w.nr a (List.mem_append_left _ h)
    ·rw [bB hj] at h;exact w.nf j a h
   nr:=fun a z=>w.nr a (List.mem_append_right _ z)
   tr:=fun a z=>w.tr a (List.mem_append_right _ z)
   ft:=w.ft }
 ·rw [if_neg hi,List.set_eq_of_length_le (by rw [← w.len];omega),List.set_eq_of_length_le (by omega)]
  exact w.less (List.sublist_append_right _ _)
theorem rz {n i:Nat} {a:Addr} {j:Nat} (h:a∈putL n Ls i Ld j):a∈Ld∨a∈Ls j:=by
 unfold putL at h
 split at h
 ·by_cases hj:j=i
  ·rw [hj,aY] at h;exact .inl h
  ·rw [bB hj] at h;exact .inr h
 ·exact .inr h
theorem Step.put {F1:Addr->Prop} {H1:Hp} {Ls1:Nat->List Addr} {n i:Nat} (s:Step F H Ls F1 H1 Ls1 Ld):Step F H Ls F1 H1 (putL n Ls1 i Ld) []:=
 ⟨s.keep,s.mono,fun j a h=>by
  rcases rz h with h | h
  ·exact s.srcD a h
  ·exact s.src j a h,fun a h=>absurd h (by simp)⟩
theorem Oc {kp:Nat->Bool} {σ : St} {i:Nat} {o:Option V} (h:kp i=false):∀ z,kp z=true->(σ.set i o)[z]? = σ[z]?:=fun z hz=>List.getElem?_set_ne fun e=>by subst e;rw [h] at hz;cases hz
end
def bK (i:Nat) (e:bU):cD:=fun ρ E=>e ρ fun d ρ'=>E.nx (ρ'.set i (some d))
def Ii (kp:Nat->Bool) (i:Nat):Prop:=kp i=false
section
variable {X:Cx} {kp:Nat->Bool} {pos:Pos}
theorem bH {i:Nat} {x:Str} {e:Expr} {se:bU} {pos':Pos} (hf0:Ii kp i) (hN:X.N.Nodup) (hi:X.N[i]? = some x) (hx:Loc X.env.scope x) (he:SE X e se) (hs:swapsWith e (some (.Name x pos')) pos.line X.env=pure false:=by rfl)
  (hf:X.fn x=true∨X.env.scope.names.lookup x=some .local:=by first | exact .inl rfl | exact .inr rfl | assumption):SS X kp (.Assign [.Name x pos'] e pos) (bK i se):=
 (Wa hN hi hx he hs hf).wk fun D σ H ⟨F,ρ,Ls,R,E,w,q,p⟩=>⟨F,ρ,Ls,R,_,w,q,fun v H1 d ρ1 F1 Ls1 Ld r1 w1 s1 q1=>
  p.nx _ H1 _ F1 _ (w1.set r1) s1.put (Oc hf0) q1⟩
end
abbrev fX:=D->En->(En->Prop)->Prop
def Pa (K:PySem.W.Frag) (kp:Nat->Bool) (g:fX):TG:=fun v σ H Q=>∃ F ρ Ls R Qd d Ld,WS K F H σ ρ Ls (Ld++R)∧Rp K F H v d Ld∧g d ρ Qd ∧
 ∀ σ' ρ' Ls',WS K F H σ' ρ' Ls' R->(∀ i a,a∈Ls' i->a∈Ld ∨ ∃ j,a∈Ls j)->(∀ z,kp z=true -> σ'[z]? = σ[z]?) -> σ'.length = σ.length->Qd ρ'->Q σ' H
def SG (X:Cx) (kp:Nat->Bool) (t:Expr) (g:fX):Prop:=PG X t (Pa X.K kp g)
def gN (i:Nat):fX:=fun d ρ Q=>Q (ρ.set i (some d))
def gGo:List fX->List D->En->(En->Prop)->Prop
 | [],[],ρ,Q=>Q ρ
 | g :: gs,d :: ds,ρ,Q=>g d ρ fun ρ'=>gGo gs ds ρ' Q
 | _,_,_,_=>False
def gT (gs:List fX):fX:=fun d ρ Q=>∃ ds,d = .tup ds∧gGo gs ds ρ Q
def YL (K:PySem.W.Frag) (kp:Nat->Bool) (gs:List fX):TGs:=fun vs σ H Q=>∃ F ρ Ls R Qd ds Ld,WS K F H σ ρ Ls (Ld++R)∧Rps K F H vs ds Ld∧gGo gs ds ρ Qd ∧
 ∀ σ' ρ' Ls',WS K F H σ' ρ' Ls' R->(∀ i a,a∈Ls' i->a∈Ld ∨ ∃ j,a∈Ls j)->(∀ z,kp z=true -> σ'[z]? = σ[z]?) -> σ'.length = σ.length->Qd ρ'->Q σ' H
def SGs (X:Cx) (kp:Nat->Bool) (ts:List Expr) (gs:List fX):Prop:=PGs X ts (YL X.K kp gs)
theorem PG.wk {X:Cx} {e:Expr} {t t':TG} (h:PG X e t) (k:∀ v σ H Q,t' v σ H Q->t v σ H Q):PG X e t':=fun pins s σ H v u Q I r q=>h pins s σ H v u Q I r (k v σ H Q q)
theorem PGs.wk {X:Cx} {e:List Expr} {t t':TGs} (h:PGs X e t) (k:∀ v σ H Q,t' v σ H Q->t v σ H Q):PGs X e t':=fun pins s σ H v u Q I r q=>h pins s σ H v u Q I r (k v σ H Q q)
section
variable {X:Cx} {kp:Nat->Bool} {pos:Pos}
theorem aM {i:Nat} {x:Str} (hf0:Ii kp i) (hN:X.N.Nodup) (hi:X.N[i]? = some x) (hx:Loc X.env.scope x) (hf:X.fn x=true∨X.env.scope.names.lookup x=some .local:=by first | exact .inl rfl | exact .inr rfl | assumption):SG X kp (.Name x pos) (gN i):=
 (Rn hN hi hx hf).wk fun v σ H Q ⟨F,ρ,Ls,R,Qd,d,Ld,w,r,q,k⟩=>k _ _ _ (w.set r) (fun j a h=>(rz h).elim .inl fun h=>.inr ⟨j,h⟩) (Oc hf0) (by simp) q
theorem gk:SGs X kp [] []:=Ro.wk fun vs σ H Q ⟨F,ρ,Ls,R,Qd,ds,Ld,w,r,q,k⟩=>by
 cases r with
 | nil=>exact ⟨rfl,k σ ρ Ls w (fun i a h=>.inr ⟨i,h⟩) (fun _ _=>rfl) rfl q⟩
 | cons _ _=>exact q.elim
theorem bA {e:Expr} {es:List Expr} {g:fX} {gs:List fX} (h1:SG X kp e g) (h2:SGs X kp es gs)
  (hs:(assignEach (e :: es) X.env).map (·.2)=assign e X.env :: (assignEach es X.env).map (·.2):=by rfl):SGs X kp (e :: es) (g :: gs):=
 (Np h1 h2 hs).wk fun vs σ H Q ⟨F,ρ,Ls,R,Qd,ds,Ld,w,r,q,k⟩=>by
  cases r with
  | nil=>exact q.elim
  | @cons v vs d ds L M r rs=>
   refine ⟨v,vs,rfl,F,ρ,Ls,M++R,_,d,L,by rw [← List.append_assoc];exact w,r,q,fun σ1 ρ1 Ls1 w1 s1 e1 l1 q1=>?_⟩
   refine ⟨F,ρ1,Ls1,R,Qd,ds,M,w1,rs,q1,fun σ2 ρ2 Ls2 w2 s2 e2 l2 q2=>k σ2 ρ2 Ls2 w2 (fun i a h=>?_) (fun z h=>(e2 z h).trans (e1 z h)) (l2.trans l1) q2⟩
   rcases s2 i a h with h | ⟨j,h⟩
   ·exact .inl (List.mem_append_right _ h)
   ·rcases s1 j a h with h | h
    ·exact .inl (List.mem_append_left _ h)
    ·exact .inr h
theorem Hg:∀ {gs:List fX} {ds:List D} {ρ : En} {Q:En->Prop},gGo gs ds ρ Q->(∀ g∈gs,∀ d ρ Q,g d ρ Q -> ∃ ρ',Q ρ')->ds.length=gs.length
 | [],[],_,_,_,_=>rfl
 | [],_ :: _,_,_,h,_=>h.elim
 | _ :: _,[],_,_,h,_=>h.elim
 | g :: gs,d :: ds,ρ,Q,h,hg=>by
  obtain ⟨ρ',h⟩:=hg g List.mem_cons_self d ρ _ h
  rw [List.length_cons,List.length_cons,Hg h fun g hg'=>hg g (List.mem_cons_of_mem _ hg')]
theorem iU {es:List Expr} {k:Nat} {gs:List fX} (hc:X.calm=true) (h:SGs X kp es gs) (hg:∀ g∈gs,∀ d ρ Q,g d ρ Q -> ∃ ρ',Q ρ')
  (hn:(assignEach es X.env).length=gs.length:=by rfl) (hst:(assignEach es X.env).findIdx? (·.1)=none:=by rfl):SG X kp (.Tuple es k pos) (gT gs):=
 (VN hc h hn hst).wk fun v σ H Q ⟨F,ρ,Ls,R,Qd,d,Ld,w,r,⟨ds,e,q⟩,k⟩=>by
  subst e
  obtain ⟨a,vs,rfl,ha,ra⟩:=r.tup_at
  exact ⟨a,vs,rfl,ha,by rw [ra.length];exact Hg q hg,F,ρ,Ls,R,Qd,ds,Ld,w,ra,q,k⟩
def Jv (g:fX) (e:bU):cD:=fun ρ E=>e ρ fun d ρ'=>g d ρ' E.nx
theorem FJ {tg e:Expr} {se:bU} {g:fX} (he:SE X e se) (hg:SG X kp tg g) (hs:swapsWithSole [tg] e pos.line X.env=pure false:=by rfl) (hw:swappedStores [tg] e X.env=pure none:=by rfl)
  (h1:(assignEach [tg] X.env).map (·.2)=[assign tg X.env]:=by rfl):SS X kp (.Assign [tg] e pos) (Jv g se):=
 (Nt he hg hs hw h1).wk fun D σ H ⟨F,ρ,Ls,R,E,w,q,p⟩=>⟨F,ρ,Ls,R,_,w,q,fun v H1 d ρ1 F1 Ls1 Ld r1 w1 s1 q1=>
  ⟨F1,ρ1,Ls1,R,_,d,Ld,w1,r1,q1,fun σ' ρ' Ls' w' s' e' _ q'=>p.nx σ' H1 ρ' F1 Ls' w' ⟨s1.keep,s1.mono,fun i a h=>(s' i a h).elim (s1.srcD a) fun ⟨j,h⟩=>s1.src j a h,fun a h=>absurd h (by simp)⟩ e' q'⟩⟩
end
def tu (t:fB) (b:cD):cD:=fun ρ E=>∃ I:Nat->En->Prop,(∃ m,I m ρ) ∧ ∀ m ρ,I m ρ -> t ρ fun c ρ'=>
 if c=true then b ρ' { E with nx:=fun ρ''=>∃ m',m'<m∧I m' ρ'',ct:=fun ρ''=>∃ m',m'<m∧I m' ρ'',bk:=E.nx } else E.nx ρ'
theorem Dr {X:Cx} {kp:Nat->Bool} {c:Expr} {body:List Stmt} {t:fB} {b:cD} {pos:Pos} (hp:PassesOwn (model X.prog X.w) X.A X.env X.xe) (hc:SB X c t) (hb:SL X kp body b):SS X kp (.While c body [] pos) (tu t b):=
 (Nx hp hc hb).wk fun D σ H ⟨F,ρ,Ls,R,E,w,⟨I,⟨m,i0⟩,turn⟩,p⟩=>by
  refine ⟨fun m σ' H'=>∃ F' ρ' Ls',WS X.K F' H' σ' ρ' Ls' R∧Step F H Ls F' H' Ls' []∧(∀ z,kp z=true -> σ'[z]? = σ[z]?)∧I m ρ',⟨m,F,ρ,Ls,w,Step.refl,fun _ _=>rfl,i0⟩,?_⟩
  rintro m σ1 H1 ⟨F1,ρ1,Ls1,w1,s1,e1,i1⟩
  refine ⟨F1,ρ1,Ls1,R,_,w1,turn m ρ1 i1,fun b H2 ρ2 F2 Ls2 w2 s2 q2=>?_⟩
  cases b with
  | false=>rw [if_neg Bool.false_ne_true] at q2 ⊢;exact p.nx σ1 H2 ρ2 F2 Ls2 w2 (s1.trans s2) e1 q2
  | true=>
   rw [if_pos rfl] at q2 ⊢
   refine ⟨fun σ' H'=>∃ F' ρ' Ls',WS X.K F' H' σ' ρ' Ls' R∧Step F H Ls F' H' Ls' []∧(∀ z,kp z=true -> σ'[z]? = σ[z]?) ∧ ∃ m',m'<m∧I m' ρ',fun σ' H' ⟨F',ρ',Ls',a1,a2,a3,m',hm,a4⟩=>⟨m',hm,F',ρ',Ls',a1,a2,a3,a4⟩,?_⟩
   have p2:=p.step (σ1:=σ1) (s1.trans s2) e1
   refine ⟨F2,ρ2,Ls2,R,_,w2,q2,⟨fun σ' H' ρ' F' Ls' w' s' e' q'=>?_,p2.rt,p2.nx,fun σ' H' ρ' F' Ls' w' s' e' q'=>?_⟩⟩
   ·exact ⟨F',ρ',Ls',w',(s1.trans s2).trans s',fun z h=>(e' z h).trans (e1 z h),q'⟩
   ·exact ⟨F',ρ',Ls',w',(s1.trans s2).trans s',fun z h=>(e' z h).trans (e1 z h),q'⟩
end L2
namespace L2
open PySem PySem.Spec PyProof.Rows
def Keeps (F:Addr->Prop) (H:Hp) (F2:Addr->Prop) (H2:Hp):Prop:=(∀ a,F a->F2 a) ∧ ∀ a o,H a=some o->(F a∨Still o)->H2 a=some o
section
variable {K:PySem.W.Frag} {F F1 F2:Addr->Prop} {H H1 H2:Hp} {σ : St} {ρ : En} {Ls Ls1:Nat->List Addr} {R Ld:List Addr}
theorem Keeps.refl:Keeps F H F H:=⟨fun _ h=>h,fun _ _ e _=>e⟩
theorem Keeps.trans (a:Keeps F H F1 H1) (b:Keeps F1 H1 F2 H2):Keeps F H F2 H2:=⟨fun x h=>b.1 x (a.1 x h),fun x o e h=>b.2 x o (a.2 x o e h) (h.imp (a.1 x) id)⟩
theorem Step.keeps (w:WS K F H σ ρ Ls R) (s:Step F H Ls F1 H1 Ls1 Ld):Keeps F H F1 H1:=⟨s.mono,fun a o e h=>s.keep a o e fun i z=>by
 rcases h with h | h
 ·exact w.nf i a z h
 ·obtain ⟨xs,q⟩:=w.own z
  rw [e] at q;cases q;exact h⟩
theorem Keeps.laid {p:Addr} {o:HO} (hn:H p=none):Keeps F H F (upd H p o):=⟨fun _ h=>h,fun a u e _=>by rw [bJ (bW e hn)];exact e⟩
theorem Rp.keeps {v:V} {d:D} (r:Rp K F H v d []) (k:Keeps F H F1 H1):Rp K F1 H1 v d []:=r.mono k.1 (fun a o e h=>k.2 a o e (.inr h)) (fun a o f e=>k.2 a o e (.inl f)) fun a h=>absurd h (by simp)
theorem Rps.keeps {vs:List V} {ds:List D} (r:Rps K F H vs ds []) (k:Keeps F H F1 H1):Rps K F1 H1 vs ds []:=r.mono k.1 (fun a o e h=>k.2 a o e (.inr h)) (fun a o f e=>k.2 a o e (.inl f)) fun a h=>absurd h (by simp)
end
abbrev qd:=En->(List D->En->Prop)->Prop
structure Wk (K:PySem.W.Frag) (F:Addr->Prop) (H:Hp) (J:It) (ds:List D):Prop where
 go:∀ i F2 H2,Keeps F H F2 H2->i<ds.length->J.go i H2
 yld:∀ i F2 H2 x H3 d,Keeps F H F2 H2->ds[i]? = some d->J.yld i H2 x H3->Rp K F2 H3 x d []∧(H3=H2 ∨ ∃ p xs,H2 p=none∧H3=upd H2 p (.tup xs))
 stop:∀ F2 H2,Keeps F H F2 H2->J.stop ds.length H2
 small:ds.length<=sizeLine
def YM (K:PySem.W.Frag) (s:qd):TI:=fun σ H Q=>∃ F ρ Ls R Qd,WS K F H σ ρ Ls R∧s ρ Qd ∧
 ∀ J H' ds ρ' F' Ls',WS K F' H' σ ρ' Ls' R->Step F H Ls F' H' Ls' []->Wk K F' H' J ds->Qd ds ρ'->Q J H'
def SI (X:Cx) (tg e:Expr) (s:qd):Prop:=PI X tg e (YM X.K s)
theorem PI.wk {X:Cx} {tg e:Expr} {t t':TI} (h:PI X tg e t) (k:∀ σ H Q,t' σ H Q->t σ H Q):PI X tg e t':=fun pins s σ H Q I q=>h pins s σ H Q I (k σ H Q q)
def gq (s:bU):qd:=fun ρ Q=>s ρ fun d ρ'=>match d with
 | .lst _ ds=>ds.length<=sizeLine∧Q (D.fzs ds) ρ'
 | .tup ds=>ds.length<=sizeLine∧Q (D.fzs ds) ρ'
 | .scr ns=>ns.length<=sizeLine∧Q (ns.map D.int) ρ'
 | _=>False
section
variable {X:Cx} {tg:Expr} {K:PySem.W.Frag} {F F2:Addr->Prop} {H H2:Hp}
theorem Jr {l:Expr} {tl:TE} (hl:PE X l tl):PI X tg l (fun σ H R=>tl σ H fun x H1=>∃ a,x = .ref a∧(((∃ xs,SqL X.K H1 a xs)∧R (Itl X.K a) H1)∨((∃ xs,SqT X.K H1 a xs)∧R (Itt X.K a) H1))):=by
 intro pins s σ H R I h
 refine thn (hl pins s σ H _ I h) fun v s1 ⟨x,H1,I1,r1,q1⟩=>?_
 obtain ⟨a,e,q⟩:=q1
 subst e
 cases r1
 rcases q with ⟨⟨xs,hq⟩,q⟩ | ⟨⟨xs,hq⟩,q⟩
 ·obtain ⟨its,rv,p,hz⟩:=I1.list hq
  refine wpAny_pyIter_list p.isList ?_
  refine ⟨s1.heap.objs.size,[s1.heap.objs.size],_,_,H1,rfl,I1.kept (t':=s1.toks) fun b o e=>Heap.get?_push_of_some _ e,JG a _,⟨_,Heap.get?_push_size _ rfl,rfl,rfl⟩,fun b hb=>?_,q⟩
  have e:b=s1.heap.objs.size:=by simpa using hb
  subst e
  exact I1.fpOk (Nat.le_refl _) (I1.hok.fresh (Nat.le_refl _))
 ·obtain ⟨its,rv,p,hz⟩:=I1.tuple hq
  refine wpAny_pyIter_tuple (show s1.heap.IsTuple a its.toArray from p) ?_
  refine ⟨s1.heap.objs.size,[s1.heap.objs.size],_,_,H1,rfl,I1.kept (t':=s1.toks) fun b o e=>Heap.get?_push_of_some _ e,FT a _,⟨_,Heap.get?_push_size _ rfl,rfl,rfl⟩,fun b hb=>?_,q⟩
  have e:b=s1.heap.objs.size:=by simpa using hb
  subst e
  exact I1.fpOk (Nat.le_refl _) (I1.hok.fresh (Nat.le_refl _))
theorem Pu {J:It} {vs:List V} {ds:List D} (Sq:Hp->Prop) (h0:∀ F2 H2,Keeps F H F2 H2->Sq H2) (hr:Rps K F H vs ds []) (hz:ds.length<=sizeLine)
  (go:∀ i H2 v,Sq H2->vs[i]? = some v->J.go i H2) (yld:∀ i H2 x H3 v,Sq H2->vs[i]? = some v->J.yld i H2 x H3->H3=H2∧x=v) (stop:∀ H2,Sq H2->J.stop vs.length H2):Wk K F H J ds where
 go:=fun i F2 H2 k hi=>by
  obtain ⟨v,_,e,_⟩:=hr.get (List.getElem?_eq_getElem hi)
  exact go i H2 v (h0 F2 H2 k) e
 yld:=fun i F2 H2 x H3 d k e y=>by
  obtain ⟨v,M,e1,r,sl⟩:=hr.get e
  obtain ⟨rfl,rfl⟩:=yld i H2 x H3 v (h0 F2 H2 k) e1 y
  have:M=[]:=List.sublist_nil.mp sl
  subst this
  exact ⟨r.keeps k,.inl rfl⟩
 stop:=fun F2 H2 k=>by rw [← hr.length];exact stop H2 (h0 F2 H2 k)
 small:=hz
theorem Rps.ints:∀ ns:List Int,Rps K F H (ns.map V.int) (ns.map D.int) []
 | []=>.nil
 | n :: ns=>.cons (L:=[]) (M:=[]) (.int n) (Rps.ints ns)
theorem dZ {e:Expr} {s:bU} (he:SE X e s):SI X tg e (gq s):=
 (Jr he).wk fun σ H Q ⟨F,ρ,Ls,R,Qd,w,q,k⟩=>⟨F,ρ,Ls,R,_,w,q,fun v H1 d ρ1 F1 Ls1 Ld r1 w1 s1 q1=>by
  have w2:=w1.give
  have s2:=s1.trans (Step.give (M:=Ld))
  cases d with
  | non=>exact q1.elim
  | bl _=>exact q1.elim
  | int _=>exact q1.elim
  | str _=>exact q1.elim
  | ty _=>exact q1.elim
  | xc _ _=>exact q1.elim
  | fn _=>exact q1.elim
  | lst o ds=>
   obtain ⟨hz,q1⟩:=q1
   obtain ⟨a,vs,M,rfl,ha,ra,hM⟩:=r1.lst_at
   have hF:(F1 a∨a∈Ld):=by
    cases r1 with
    | frz _ f _=>exact .inl f
    | own _ _=>exact .inr List.mem_cons_self
   have ra':=ra.freeze (F':=fun a=>F1 a∨a∈Ld) (fun _ h=>.inl h) fun b hb=>.inr (hM b hb)
   refine ⟨a,rfl,.inl ⟨⟨vs,.of ha⟩,k _ H1 _ ρ1 _ Ls1 w2 s2 (Pu (fun H2=>H2 a=some (.lst vs)) (fun F2 H2 k=>k.2 a _ ha (.inl hF)) ra' (by rw [D.fzs_eq,List.length_map];exact hz) ?_ ?_ ?_) q1⟩⟩
   ·exact fun i H2 v h e=>⟨vs,v,.of h,e⟩
   ·intro i H2 x H3 v h e y
    obtain ⟨rfl,y⟩:=y
    have:=y vs (.of h)
    rw [e] at this
    exact ⟨rfl,(Option.some.inj this).symm⟩
   ·exact fun H2 h=>⟨vs,.of h,Nat.le_refl _⟩
  | tup ds=>
   obtain ⟨hz,q1⟩:=q1
   obtain ⟨a,vs,rfl,ha,ra⟩:=r1.tup_at
   have ra':=ra.freeze (F':=fun a=>F1 a∨a∈Ld) (fun _ h=>.inl h) fun b hb=>.inr hb
   refine ⟨a,rfl,.inr ⟨⟨vs,ha⟩,k _ H1 _ ρ1 _ Ls1 w2 s2 (Pu (fun H2=>SqT X.K H2 a vs) (fun F2 H2 k=>ha.keep fun o e h=>k.2 a o e (.inr h)) ra' (by rw [D.fzs_eq,List.length_map];exact hz) ?_ ?_ ?_) q1⟩⟩
   ·exact fun i H2 v h e=>⟨vs,v,h,e⟩
   ·intro i H2 x H3 v h e y
    obtain ⟨rfl,y⟩:=y
    have:=y vs h
    rw [e] at this
    exact ⟨rfl,(Option.some.inj this).symm⟩
   ·exact fun H2 h=>⟨vs,h,Nat.le_refl _⟩
  | scr ns=>
   obtain ⟨hz,q1⟩:=q1
   cases r1 with
   | @scr a _ h=>
    refine ⟨a,rfl,.inl ⟨⟨_,h.sq⟩,k _ H1 _ ρ1 _ Ls1 w2 s2 (Pu (fun H2=>SqL X.K H2 a (ns.map V.int)) (fun F2 H2 k=>(h.keep fun o e h=>k.2 a o e (.inr h)).sq) (Rps.ints ns) (by rw [List.length_map];exact hz) ?_ ?_ ?_) q1⟩⟩
    ·exact fun i H2 v h e=>⟨_,v,h,e⟩
    ·intro i H2 x H3 v h e y
     obtain ⟨rfl,y⟩:=y
     have:=y _ h
     rw [e] at this
     exact ⟨rfl,(Option.some.inj this).symm⟩
    ·exact fun H2 h=>⟨_,h,Nat.le_refl _⟩⟩
def pQ (lo:Int) (n:Nat):List D:=(List.range n).map fun (i:Nat)=>D.int (lo+(i:Int))
def cZ (o:Opd):qd:=fun ρ Q=>eQ [o] ρ fun as ρ'=>∃ j:Int,bG ρ' as=some [.int j]∧(-(2 ^ 62)<=j∧j<2 ^ 62∧j.toNat<=sizeLine)∧Q (pQ 0 j.toNat) ρ'
def mW (o o':Opd):qd:=fun ρ Q=>eQ [o,o'] ρ fun as ρ'=>∃ i j:Int,bG ρ' as=some [.int i,.int j]∧(-(2 ^ 62)<=i∧i<2 ^ 62 ∧ -(2 ^ 62)<=j∧j<2 ^ 62∧(j - i).toNat<=sizeLine)∧Q (pQ i (j - i).toNat) ρ'
theorem Dy {lo:Int} {n:Nat} (hz:n<=sizeLine):Wk K F H (Itr lo n) (pQ lo n) where
 go:=fun i F2 H2 _ hi=>by show i<n;simpa [pQ] using hi
 yld:=fun i F2 H2 x H3 d _ e y=>by
  obtain ⟨rfl,rfl⟩:=y
  simp only [pQ,List.getElem?_map] at e
  obtain ⟨j,e1,rfl⟩:=Option.map_eq_some_iff.mp e
  obtain ⟨h1,h2⟩:=List.getElem?_eq_some_iff.mp e1
  simp only [List.getElem_range] at h2
  subst h2
  exact ⟨.int _,.inl rfl⟩
 stop:=fun F2 H2 _=>by show n<=_;simp [pQ]
 small:=by simpa [pQ] using hz
theorem dW {a:Expr} {o:Opd} {p pos:Pos} (hg:Gl X "range") (hm:X.mg "range" = none) (ha:SA X [a] [o]) (hs:starEach [a] X.env=[(false,eval a X.env)]:=by rfl):SI X tg (.Call (.Name "range" p) [a] [] pos) (cZ o):=
 (Js hg hm ha hs).wk fun σ H Q ⟨F,ρ,Ls,R,Qd,w,q,k⟩=>⟨F,ρ,Ls,R,_,w,q,fun vs H1 as ρ1 F1 Ls1 La r1 w1 s1 ⟨j,e,q0,q1⟩=>by
  obtain ⟨x,L,rfl,rx⟩:=(r1.at w1 e).one
  cases rx.isInt
  exact ⟨_,rfl,q0.1,q0.2.1,k _ H1 _ ρ1 F1 Ls1 (w1.less (List.sublist_append_right La R)) (s1.more (Ld2:=[]) fun a h=>absurd h (by simp)) (Dy q0.2.2) q1⟩⟩
theorem tG {a b:Expr} {o o':Opd} {p pos:Pos} (hg:Gl X "range") (hm:X.mg "range" = none) (ha:SA X [a,b] [o,o']) (hs:starEach [a,b] X.env=[(false,eval a X.env),(false,eval b X.env)]:=by rfl) (hs2:starEach [b] X.env=[(false,eval b X.env)]:=by rfl) :
  SI X tg (.Call (.Name "range" p) [a,b] [] pos) (mW o o'):=
 (Jt hg hm ha hs hs2).wk fun σ H Q ⟨F,ρ,Ls,R,Qd,w,q,k⟩=>⟨F,ρ,Ls,R,_,w,q,fun vs H1 as ρ1 F1 Ls1 La r1 w1 s1 ⟨i,j,e,q0,q1⟩=>by
  obtain ⟨x,y,L,M,rfl,rx,ry⟩:=(r1.at w1 e).two
  cases rx.isInt
  cases ry.isInt
  exact ⟨_,_,rfl,⟨q0.1,q0.2.1,q0.2.2.1,q0.2.2.2.1⟩,k _ H1 _ ρ1 F1 Ls1 (w1.less (List.sublist_append_right La R)) (s1.more (Ld2:=[]) fun a h=>absurd h (by simp)) (Dy q0.2.2.2.2) q1⟩⟩
def mL (xs ys:List D):List D:=(xs.zip ys).map fun p=>D.tup [p.1,p.2]
def pZ (s u:bU):qd:=fun ρ Q=>eQ [.val s,.val u] ρ fun as ρ2=>∃ o xs o' ys,as=[.val (.lst o xs),.val (.lst o' ys)]∧xs.length<=sizeLine∧Q (mL (D.fzs xs) (D.fzs ys)) ρ2
theorem rP {xs ys:List D} {i:Nat} {d:D} (e:(mL xs ys)[i]? = some d):∃ x y,xs[i]? = some x∧ys[i]? = some y∧d = .tup [x,y]:=by
 simp only [mL,List.getElem?_map] at e
 obtain ⟨⟨x,y⟩,e1,rfl⟩:=Option.map_eq_some_iff.mp e
 obtain ⟨h1,h2⟩:=List.getElem?_zip_eq_some.mp e1
 exact ⟨x,y,h1,h2,rfl⟩
theorem Ae {es:List Expr} {k:Nat} {tpos:Pos} {a b:Expr} {s u:bU} {p pos:Pos} (hg:Gl X "zip") (hm:X.mg "zip" = none) (ha:SE X a s) (hb:SE X b u)
  (hs:starEach [a,b] X.env=[(false,eval a X.env),(false,eval b X.env)]:=by rfl) (hs2:starEach [b] X.env=[(false,eval b X.env)]:=by rfl) :
  SI X (.Tuple es k tpos) (.Call (.Name "zip" p) [a,b] [] pos) (pZ s u):=
 (VP X.K rfl hg hm (aj (o:=.val s) ha (aj (o:=.val u) hb ao hs2) (by rw [hs,hs2])) hs hs2).wk fun σ H Q ⟨F,ρ,Ls,R,Qd,w,q,k⟩=>⟨F,ρ,Ls,R,_,w,q,fun vs H1 as ρ1 F1 Ls1 La r1 w1 s1 ⟨o,xs,o',ys,e,hz,q1⟩=>by
  subst e
  cases r1 with
  | @val v1 _ _ _ L M r1 rs=>cases rs with
   | @val v2 _ _ _ L' M' r2 rs=>cases rs with
    | nil=>
     have w2:=w1.give
     have s2:=s1.trans (Step.give (M:=L++(L'++[])))
     obtain ⟨a,xs',N,rfl,ha,ra,hN⟩:=r1.lst_at
     obtain ⟨b,ys',N',rfl,hb,rb,hN'⟩:=r2.lst_at
     have hFa:(F1 a∨a∈L++(L'++[])):=by
      cases r1 with
      | frz _ f _=>exact .inl f
      | own _ _=>exact .inr (List.mem_append_left _ List.mem_cons_self)
     have hFb:(F1 b∨b∈L++(L'++[])):=by
      cases r2 with
      | frz _ f _=>exact .inl f
      | own _ _=>exact .inr (List.mem_append_right _ (List.mem_append_left _ List.mem_cons_self))
     have ra':=ra.freeze (F':=fun z=>F1 z∨z∈L++(L'++[])) (fun _ h=>.inl h) fun c hc=>.inr (List.mem_append_left _ (hN c hc))
     have rb':=rb.freeze (F':=fun z=>F1 z∨z∈L++(L'++[])) (fun _ h=>.inl h) fun c hc=>.inr (List.mem_append_right _ (List.mem_append_left _ (hN' c hc)))
     refine ⟨a,b,rfl,⟨_,.of ha⟩,⟨_,.of hb⟩,k _ H1 _ ρ1 _ Ls1 w2 s2 ⟨?_,?_,?_,?_⟩ q1⟩
     ·intro i F2 H2 kp hi
      obtain ⟨d,e⟩:=(show ∃ d,(mL (D.fzs xs) (D.fzs ys))[i]? = some d from ⟨_,List.getElem?_eq_getElem hi⟩)
      obtain ⟨x,y,h1,h2,_⟩:=rP e
      obtain ⟨v1,_,g1,_⟩:=ra'.get h1
      obtain ⟨v2,_,g2,_⟩:=rb'.get h2
      exact ⟨_,_,_,_,.of (kp.2 a _ ha (.inl hFa)),.of (kp.2 b _ hb (.inl hFb)),g1,g2⟩
     ·intro i F2 H2 x H3 d kp e y
      obtain ⟨x1,y1,h1,h2,rfl⟩:=rP e
      obtain ⟨v1,M1,g1,r1',sl1⟩:=ra'.get h1
      obtain ⟨v2,M2,g2,r2',sl2⟩:=rb'.get h2
      obtain ⟨p,x',y',hn,rfl,rfl,e1,e2⟩:=y
      have z1:=e1 _ (.of (kp.2 a _ ha (.inl hFa)))
      have z2:=e2 _ (.of (kp.2 b _ hb (.inl hFb)))
      rw [g1] at z1;rw [g2] at z2
      cases z1;cases z2
      cases List.sublist_nil.mp sl1;cases List.sublist_nil.mp sl2
      refine ⟨.tup cW (.cons (L:=[]) (M:=[]) ((r1'.keeps kp).laid hn) (.cons (L:=[]) (M:=[]) ((r2'.keeps kp).laid hn) .nil)),.inr ⟨p,_,hn,rfl⟩⟩
     ·intro F2 H2 kp
      refine ⟨_,_,.of (kp.2 a _ ha (.inl hFa)),.of (kp.2 b _ hb (.inl hFb)),?_⟩
      rw [ra'.length,rb'.length]
      simp only [mL,List.length_map,List.length_zip]
      omega
     ·simp only [mL,List.length_map,List.length_zip,D.fzs_eq]
      omega⟩
def oF:Nat->List D->List D
 | _,[]=>[]
 | n,d :: ds=>.tup [.int n,d] :: oF (n+1) ds
theorem yu:∀ {n:Nat} {xs:List D} {i:Nat},(oF n xs)[i]? = (xs[i]?).map fun x=>.tup [.int ((n+i:Nat):Int),x]
 | _,[],i=>by simp [oF]
 | n,x :: xs,0=>by simp [oF]
 | n,x :: xs,i+1=>by simp only [oF,List.getElem?_cons_succ,yu (n:=n+1)];rw [Nat.add_right_comm,Nat.add_assoc]
theorem pB:∀ (n:Nat) (xs:List D),(oF n xs).length=xs.length
 | _,[]=>rfl
 | n,x :: xs=>by simp [oF,pB (n+1) xs]
def zr (s:bU):qd:=fun ρ Q=>eQ [.val s] ρ fun as ρ2=>∃ o xs,as=[.val (.lst o xs)]∧xs.length<=sizeLine∧Q (oF 0 (D.fzs xs)) ρ2
theorem RT {es:List Expr} {k:Nat} {tpos:Pos} {a:Expr} {s:bU} {p pos:Pos} (hg:Gl X "enumerate") (hm:X.mg "enumerate" = none) (ha:SE X a s)
  (hs:starEach [a] X.env=[(false,eval a X.env)]:=by rfl):SI X (.Tuple es k tpos) (.Call (.Name "enumerate" p) [a] [] pos) (zr s):=
 (Rq X.K rfl hg hm (aj (o:=.val s) ha ao hs) hs).wk fun σ H Q ⟨F,ρ,Ls,R,Qd,w,q,k⟩=>⟨F,ρ,Ls,R,_,w,q,fun vs H1 as ρ1 F1 Ls1 La r1 w1 s1 ⟨o,xs,e,hz,q1⟩=>by
  subst e
  cases r1 with
  | @val v1 _ _ _ L M r1 rs=>cases rs with
   | nil=>
    have w2:=w1.give
    have s2:=s1.trans (Step.give (M:=L++[]))
    obtain ⟨a,xs',N,rfl,ha,ra,hN⟩:=r1.lst_at
    have hFa:(F1 a∨a∈L++[]):=by
     cases r1 with
     | frz _ f _=>exact .inl f
     | own _ _=>exact .inr (List.mem_append_left _ List.mem_cons_self)
    have ra':=ra.freeze (F':=fun z=>F1 z∨z∈L++[]) (fun _ h=>.inl h) fun c hc=>.inr (List.mem_append_left _ (hN c hc))
    refine ⟨a,rfl,⟨_,.of ha⟩,k _ H1 _ ρ1 _ Ls1 w2 s2 ⟨?_,?_,?_,?_⟩ q1⟩
    ·intro i F2 H2 kp hi
     rw [pB] at hi
     obtain ⟨v1,_,g1,_⟩:=ra'.get (List.getElem?_eq_getElem hi)
     exact ⟨_,_,.of (kp.2 a _ ha (.inl hFa)),g1⟩
    ·intro i F2 H2 x H3 d kp e y
     rw [yu] at e
     obtain ⟨x1,h1,rfl⟩:=Option.map_eq_some_iff.mp e
     obtain ⟨v1,M1,g1,r1',sl1⟩:=ra'.get h1
     obtain ⟨p,x',hn,rfl,rfl,e1⟩:=y
     have z1:=e1 _ (.of (kp.2 a _ ha (.inl hFa)))
     rw [g1] at z1
     cases z1
     cases List.sublist_nil.mp sl1
     rw [Nat.zero_add]
     refine ⟨.tup cW (.cons (L:=[]) (M:=[]) (.int _) (.cons (L:=[]) (M:=[]) ((r1'.keeps kp).laid hn) .nil)),.inr ⟨p,_,hn,rfl⟩⟩
    ·intro F2 H2 kp
     refine ⟨_,.of (kp.2 a _ ha (.inl hFa)),?_⟩
     rw [ra'.length,pB]
     exact Nat.le_refl _
    ·rw [pB,D.fzs_eq,List.length_map];exact hz⟩
end
def forL (g:fX) (b:cD):List D->En->EndD->Prop
 | [],ρ,E=>E.nx ρ
 | d :: ds,ρ,E=>g d ρ fun ρ1=>b ρ1 { E with nx:=fun ρ2=>forL g b ds ρ2 E,ct:=fun ρ2=>forL g b ds ρ2 E,bk:=E.nx }
def il (i:qd) (g:fX) (b:cD):cD:=fun ρ E=>i ρ fun ds ρ'=>forL g b ds ρ' E
theorem fW {X:Cx} {kp:Nat->Bool} {tg iter:Expr} {body:List Stmt} {si:qd} {g:fX} {b:cD} {pos:Pos} (hp:PassesOwn (model X.prog X.w) X.A X.env X.xe) (hc:X.calm=true) (hi:SI X tg iter si) (hg:SG X kp tg g) (hb:SL X kp body b)
  (hs:∀ x,foldedSetIterable iter X.env x=pure x:=by intro _;rfl):SS X kp (.For tg iter body [] pos) (il si g b):=
 (VR hp hc hi hg hb hs).wk fun D σ H ⟨F,ρ,Ls,R,E,w,q,p⟩=>⟨F,ρ,Ls,R,_,w,q,fun J H1 ds ρ1 F1 Ls1 w1 s1 wk q1=>by
  refine ⟨fun i m σ' H'=>m=ds.length - i∧i<=ds.length ∧ ∃ F' ρ' Ls',WS X.K F' H' σ' ρ' Ls' R∧Step F H Ls F' H' Ls' []∧Keeps F1 H1 F' H'∧(∀ z,kp z=true -> σ'[z]? = σ[z]?)∧forL g b (ds.drop i) ρ' E,⟨ds.length,by simp,Nat.zero_le _,F1,ρ1,Ls1,w1,s1,Keeps.refl,fun _ _=>rfl,q1⟩,?_⟩
  rintro i m σ2 H2 ⟨rfl,hi,F2,ρ2,Ls2,w2,s2,k2,e2,q2⟩
  by_cases hlt:i<ds.length
  ·have hd:=List.getElem?_eq_getElem hlt
   rw [List.drop_eq_getElem_cons hlt] at q2
   refine .inr ⟨wk.go i F2 H2 k2 hlt,fun σ' H'=>∃ F' ρ' Ls',WS X.K F' H' σ' ρ' Ls' R∧Step F H Ls F' H' Ls' []∧Keeps F1 H1 F' H'∧(∀ z,kp z=true -> σ'[z]? = σ[z]?)∧forL g b (ds.drop (i+1)) ρ' E,
    fun σ' H' h=>⟨ds.length - (i+1),by omega,rfl,hlt,h⟩,fun x H3 y=>?_⟩
   obtain ⟨rx,hH⟩:=wk.yld i F2 H2 x H3 _ k2 hd y
   have w3:WS X.K F2 H3 σ2 ρ2 Ls2 R∧Step F2 H2 Ls2 F2 H3 Ls2 []∧Keeps F2 H2 F2 H3:=by
    rcases hH with rfl | ⟨p,xs,hn,rfl⟩
    ·exact ⟨w2,Step.refl,Keeps.refl⟩
    ·exact ⟨w2.laid hn,Step.laid hn,Keeps.laid hn⟩
   obtain ⟨w3,s3,k3⟩:=w3
   refine ⟨F2,ρ2,Ls2,R,_,_,[],w3,rx,q2,fun σ4 ρ4 Ls4 w4 src4 e4 _ q4=>?_⟩
   have s4:Step F H Ls F2 H3 Ls4 []:=(s2.trans s3).trans ⟨fun _ _ e _=>e,fun _ h=>h,fun j a h=>(src4 j a h).elim (fun h=>absurd h (by simp)) .inl,fun a h=>absurd h (by simp)⟩
   have e4':∀ z,kp z=true -> σ4[z]? = σ[z]?:=fun z h=>(e4 z h).trans (e2 z h)
   have p4:=p.step (σ1:=σ4) s4 e4'
   refine ⟨F2,ρ4,Ls4,R,_,w4,q4,⟨fun σ' H' ρ' F' Ls' w' s' e' q'=>?_,p4.rt,p4.nx,fun σ' H' ρ' F' Ls' w' s' e' q'=>?_⟩⟩
   ·exact ⟨F',ρ',Ls',w',s4.trans s',(k2.trans k3).trans (s'.keeps w4),fun z h=>(e' z h).trans (e4' z h),q'⟩
   ·exact ⟨F',ρ',Ls',w',s4.trans s',(k2.trans k3).trans (s'.keeps w4),fun z h=>(e' z h).trans (e4' z h),q'⟩
  ·have e:i=ds.length:=by omega
   subst e
   rw [List.drop_length] at q2
   exact .inl ⟨wk.stop F2 H2 k2,p.nx σ2 H2 ρ2 F2 Ls2 w2 s2 e2 q2⟩⟩
end L2
namespace L2
open PySem PySem.Spec PyProof.Rows
def cSt (nO:Nat) (fr:List Nat) (ρ : En):En:=List.replicate nO none++fr.map fun j=>(ρ[j]?).getD none
def wb:En->List Nat->En->En
 | ρ,j :: js,c :: cs=>wb (ρ.set j c) js cs
 | ρ,_,_=>ρ
def jz (g:fX) (t:fB) (el:bU):List D->En->(List D->En->Prop)->Prop
 | [],ρ,Q=>Q [] ρ
 | d :: ds,ρ,Q=>g d ρ fun ρ1=>t ρ1 fun b ρ2=>if b=true then el ρ2 fun y ρ3=>jz g t el ds ρ3 fun ys ρ4=>Q (y :: ys) ρ4 else jz g t el ds ρ2 Q
def cO (si:qd) (nO:Nat) (fr:List Nat) (g:fX) (t:fB) (el:bU):bU:=fun ρ Q=>si ρ fun ds ρ1=>jz g t el ds (cSt nO fr ρ1) fun es ρc=>Q (.lst true es) (wb ρ1 fr (ρc.drop nO))
def fu:fB:=fun ρ Q=>Q true ρ
def SBs (X:Cx) (ifs:List Expr) (t:fB):Prop:=PTs X ifs (qy X.K t)
theorem PTs.wk {X:Cx} {e:List Expr} {t t':TT} (h:PTs X e t) (k:∀ σ H Q,t' σ H Q->t σ H Q):PTs X e t':=fun pins s σ H Q I q=>h pins s σ H Q I (k σ H Q q)
theorem cM {X:Cx}:SBs X [] fu:=Rz.wk fun σ H Q h=>Ak h
theorem RK {X:Cx} {c:Expr} {t:fB} (h:SB X c t):SBs X [c] t:=RB h
theorem Pr:∀ {fr:List Nat} {ρ cs:En},fr.Nodup->cs.length=fr.length ->
  (wb ρ fr cs).length = ρ.length∧(∀ k j:Nat,fr[k]? = some j->j < ρ.length->(wb ρ fr cs)[j]? = cs[k]?) ∧ ∀ i:Nat,i ∉ fr->(wb ρ fr cs)[i]? = ρ[i]?
 | [],ρ,cs,_,_=>⟨by simp [wb],fun k j e=>by simp at e,fun i _=>by simp [wb]⟩
 | j :: js,ρ,[],_,e=>by simp at e
 | j :: js,ρ,c :: cs,nd,e=>by
  obtain ⟨h1,h2⟩:=List.nodup_cons.mp nd
  obtain ⟨a1,a2,a3⟩:=Pr (fr:=js) (ρ:=ρ.set j c) (cs:=cs) h2 (by simpa using e)
  refine ⟨by simp only [wb];rw [a1,List.length_set],fun k i hk hi=>?_,fun i hi=>?_⟩
  ·cases k with
   | zero=>
    simp at hk
    subst hk
    simp only [wb]
    rw [a3 j h1,List.getElem?_set_self hi];simp
   | succ k=>
    simp only [wb]
    rw [a2 k i (by simpa using hk) (by rw [List.length_set];exact hi)];simp
  ·simp only [wb]
   rw [a3 i fun z=>hi (List.mem_cons_of_mem _ z),List.getElem?_set_ne fun z=>hi (by rw [z];exact List.mem_cons_self)]
def Lc (nO:Nat) (fr:List Nat) (Ls:Nat->List Addr):Nat->List Addr:=fun z=>if nO<=z then (match fr[z - nO]? with | some j=>Ls j | none=>[]) else []
theorem uO {nO:Nat} {fr:List Nat} {Ls:Nat->List Addr} {z:Nat} {a:Addr} (h:a∈Lc nO fr Ls z):∃ j,nO<=z∧fr[z - nO]? = some j∧a∈Ls j:=by
 unfold Lc at h
 by_cases hz:nO<=z
 ·rw [if_pos hz] at h
  cases e:fr[z - nO]? with
  | none=>rw [e] at h;simp at h
  | some j=>rw [e] at h;exact ⟨j,hz,rfl,h⟩
 ·rw [if_neg hz] at h;simp at h
theorem Xe {nO:Nat} {fr:List Nat} {Ls:Nat->List Addr} {k j:Nat} (h:fr[k]? = some j):Lc nO fr Ls (nO+k)=Ls j:=by
 unfold Lc
 rw [if_pos (Nat.le_add_right _ _),Nat.add_sub_cancel_left,h]
def lD (n:Nat) (fr:List Nat) (Ls:Nat->List Addr):List Addr:=((List.range n).filter fun i=>decide (i ∉ fr)).flatMap Ls
theorem mV {Ls:Nat->List Addr} (h1:∀ i,(Ls i).Nodup) (h2:∀ i j a,a∈Ls i->a∈Ls j->i=j):∀ {is:List Nat},is.Nodup->(is.flatMap Ls).Nodup
 | [],_=>by simp
 | i :: is,nd=>by
  obtain ⟨a,b⟩:=List.nodup_cons.mp nd
  rw [List.flatMap_cons,List.nodup_append]
  refine ⟨h1 i,mV h1 h2 b,fun x hx y hy e=>?_⟩
  subst e
  obtain ⟨j,hj,hm⟩:=List.mem_flatMap.mp hy
  rw [h2 i j x hx hm] at a
  exact a hj
theorem dC {n:Nat} {fr:List Nat} {Ls:Nat->List Addr} {a:Addr}:a∈lD n fr Ls ↔ ∃ i,i<n∧i ∉ fr∧a∈Ls i:=by
 unfold lD
 rw [List.mem_flatMap]
 constructor
 ·rintro ⟨i,h1,h2⟩
  obtain ⟨h3,h4⟩:=List.mem_filter.mp h1
  exact ⟨i,List.mem_range.mp h3,of_decide_eq_true h4,h2⟩
 ·rintro ⟨i,h1,h2,h3⟩
  exact ⟨i,List.mem_filter.mpr ⟨List.mem_range.mpr h1,decide_eq_true h2⟩,h3⟩
section
variable {K:PySem.W.Frag} {F:Addr->Prop} {H:Hp} {σ : St} {ρ : En} {Ls:Nat->List Addr} {R:List Addr} {own:List Str} {fr:List Nat}
theorem PQ {nO:Nat} {z:Nat} {d:D} (e:(cSt nO fr ρ)[z]? = some (some d)):∃ j,nO<=z∧fr[z - nO]? = some j ∧ ρ[j]? = some (some d):=by
 unfold cSt at e
 by_cases hz:nO<=z
 ·rw [List.getElem?_append_right (by simpa using hz),List.length_replicate,List.getElem?_map] at e
  obtain ⟨j,e1,e2⟩:=Option.map_eq_some_iff.mp e
  refine ⟨j,hz,e1,?_⟩
  cases h : ρ[j]? with
  | none=>rw [h] at e2;simp at e2
  | some o=>rw [h] at e2;simp at e2;rw [e2]
 ·rw [List.getElem?_append_left (by simpa using hz),List.getElem?_replicate] at e
  split at e <;> simp at e
theorem Uj {nO:Nat} {k j:Nat} (h:fr[k]? = some j):(cSt nO fr ρ)[nO+k]? = some ((ρ[j]?).getD none):=by
 unfold cSt
 rw [List.getElem?_append_right (by simp),List.length_replicate,Nat.add_sub_cancel_left,List.getElem?_map,h];rfl
theorem ym {k j:Nat} (h:fr[k]? = some j):(jM own fr σ)[own.length+k]? = some ((σ[j]?).getD none):=by
 unfold jM
 rw [List.getElem?_append_right (by simp),List.length_map,Nat.add_sub_cancel_left,List.getElem?_map,h];rfl
theorem WS.block (w:WS K F H σ ρ Ls R) (nd:fr.Nodup):WS K F H (jM own fr σ) (cSt own.length fr ρ) (Lc own.length fr Ls) (lD ρ.length fr Ls++R) where
 len:=by simp [jM,cSt]
 sl:=fun z d e=>by
  obtain ⟨j,hz,e1,e2⟩:=PQ e
  obtain ⟨v,e3,r⟩:=w.sl j d e2
  have ez:z=own.length+(z - own.length):=by omega
  refine ⟨v,?_,?_⟩
  ·rw [ez,ym e1,e3];rfl
  ·rw [ez,Xe e1];exact r
 em:=fun z h=>by
  unfold Lc
  by_cases hz:own.length<=z
  ·rw [if_pos hz]
   cases e:fr[z - own.length]? with
   | none=>rfl
   | some j=>
    refine w.em j fun d e2=>h d ?_
    have ez:z=own.length+(z - own.length):=by omega
    rw [ez,Uj e,e2];rfl
  ·rw [if_neg hz]
 nd:=fun z=>by
  unfold Lc
  by_cases hz:own.length<=z
  ·rw [if_pos hz]
   cases e:fr[z - own.length]? with
   | none=>exact List.nodup_nil
   | some j=>exact w.nd j
  ·rw [if_neg hz];exact List.nodup_nil
 dj:=fun z z' a h h'=>by
  obtain ⟨j,hz,e,m⟩:=uO h
  obtain ⟨j',hz',e',m'⟩:=uO h'
  have:=w.dj j j' a m m'
  subst this
  obtain ⟨l1,g1⟩:=List.getElem?_eq_some_iff.mp e
  obtain ⟨l2,g2⟩:=List.getElem?_eq_some_iff.mp e'
  have:=(List.getElem_inj nd).mp (g1.trans g2.symm)
  omega
 rd:=by
  rw [List.nodup_append]
  refine ⟨mV w.nd w.dj (List.nodup_range.filter _),w.rd,fun a ha b hb e=>?_⟩
  subst e
  obtain ⟨i,_,_,hi⟩:=dC.mp ha
  exact w.rj i a hi hb
 rj:=fun z a h m=>by
  obtain ⟨j,hz,e,mj⟩:=uO h
  rcases List.mem_append.mp m with m | m
  ·obtain ⟨i,_,hi,mi⟩:=dC.mp m
   rw [w.dj i j a mi mj] at hi
   exact hi (List.mem_of_getElem? e)
  ·exact w.rj j a mj m
 nf:=fun z a h=>by
  obtain ⟨j,hz,e,mj⟩:=uO h
  exact w.nf j a mj
 nr:=fun a m=>by
  rcases List.mem_append.mp m with m | m
  ·obtain ⟨i,_,hi,mi⟩:=dC.mp m
   exact w.nf i a mi
  ·exact w.nr a m
 tr:=fun a m=>by
  rcases List.mem_append.mp m with m | m
  ·obtain ⟨i,_,hi,mi⟩:=dC.mp m
   exact w.own mi
  ·exact w.tr a m
 ft:=w.ft
def Lb (nO:Nat) (fr:List Nat) (Ls Lsc:Nat->List Addr):Nat->List Addr:=fun i=>match fr.findIdx? (· == i) with | some k=>Lsc (nO+k) | none=>Ls i
theorem vJ {i k:Nat} (h:fr.findIdx? (· == i)=some k):fr[k]? = some i:=by
 obtain ⟨hk,e,_⟩:=List.findIdx?_eq_some_iff_getElem.mp h
 have:=beq_iff_eq.mp e
 rw [List.getElem?_eq_getElem hk,this]
theorem Cu {i:Nat} (h:fr.findIdx? (· == i)=none):i ∉ fr:=fun m=>by
 have:=List.findIdx?_eq_none_iff.mp h i m
 simp at this
theorem WS.unblock {F':Addr->Prop} {H':Hp} {σc:St} {ρc:En} {Lsc:Nat->List Addr} {Le:List Addr} (w:WS K F H σ ρ Ls R) (nd:fr.Nodup) (hfr:∀ j∈fr,j < ρ.length)
  (w':WS K F' H' σc ρc Lsc (Le++(lD ρ.length fr Ls++R))) (s:Step F H (Lc own.length fr Ls) F' H' Lsc Le) (hσ : ∀ z,own.length<=z -> σc[z]? = (jM own fr σ)[z]?) (hl : ρc.length=own.length+fr.length) :
  WS K F' H' σ (wb ρ fr (ρc.drop own.length)) (Lb own.length fr Ls Lsc) (Le++R)∧Step F H Ls F' H' (Lb own.length fr Ls Lsc) Le:=by
 have hcs:(ρc.drop own.length).length=fr.length:=by rw [List.length_drop];omega
 obtain ⟨g1,g2,g3⟩:=Pr (ρ:=ρ) nd hcs
 have wc:=w.block (own:=own) nd
 have lb:∀ {i:Nat} {a:Addr},a∈Lb own.length fr Ls Lsc i->(∃ k,fr[k]? = some i∧a∈Lsc (own.length+k))∨(i ∉ fr∧a∈Ls i):=fun {i a} h=>by
  unfold Lb at h
  cases e:fr.findIdx? (· == i) with
  | some k=>rw [e] at h;exact .inl ⟨k,vJ e,h⟩
  | none=>rw [e] at h;exact .inr ⟨Cu e,h⟩
 have lb1:∀ {i k:Nat},fr[k]? = some i->Lb own.length fr Ls Lsc i=Lsc (own.length+k):=fun {i k} h=>by
  unfold Lb
  cases e:fr.findIdx? (· == i) with
  | some k'=>
   obtain ⟨l1,q1⟩:=List.getElem?_eq_some_iff.mp (vJ e)
   obtain ⟨l2,q2⟩:=List.getElem?_eq_some_iff.mp h
   rw [(List.getElem_inj nd).mp (q1.trans q2.symm)]
  | none=>exact absurd (List.mem_of_getElem? h) (Cu e)
 have lb2:∀ {i:Nat},i ∉ fr->Lb own.length fr Ls Lsc i=Ls i:=fun {i} h=>by
  unfold Lb
  cases e:fr.findIdx? (· == i) with
  | some k=>exact absurd (List.mem_of_getElem? (vJ e)) h
  | none=>rfl
 have inR:∀ {i:Nat} {a:Addr},i ∉ fr->a∈Ls i->a∈lD ρ.length fr Ls:=fun {i a} h m=>dC.mpr ⟨i,by
  by_cases hi:i < ρ.length
  ·exact hi
  ·rw [w.em i fun d e=>by rw [List.getElem?_eq_none (by omega)] at e;cases e] at m;simp at m,h,m⟩
 refine ⟨?_,⟨fun a o e n=>s.keep a o e fun z m=>?_,s.mono,fun i a m=>?_,fun a m=>?_⟩⟩
 ·have wR:=w'.less (R':=Le++R) ((List.Sublist.refl Le).append (List.sublist_append_right _ _))
  exact {
   len:=g1.trans w.len
   sl:=fun i d e=>by
    by_cases hi:i∈fr
    ·obtain ⟨k,hk⟩:=List.getElem?_of_mem hi
     rw [g2 k i hk (hfr i hi),List.getElem?_drop] at e
     obtain ⟨v,h1,h2⟩:=w'.sl _ d e
     refine ⟨v,?_,by rw [lb1 hk];exact h2⟩
     rw [hσ _ (Nat.le_add_right _ _),ym hk] at h1
     cases h : σ[i]? with
     | none=>rw [h] at h1;simp at h1
     | some o=>rw [h] at h1;simp at h1;rw [h1]
    ·rw [g3 i hi] at e
     obtain ⟨v,h1,h2⟩:=w.sl i d e
     exact ⟨v,h1,by rw [lb2 hi];exact h2.step wc s fun a ha=>List.mem_append_left _ (inR hi ha)⟩
   em:=fun i h=>by
    by_cases hi:i∈fr
    ·obtain ⟨k,hk⟩:=List.getElem?_of_mem hi
     rw [lb1 hk]
     exact w'.em _ fun d e=>h d (by rw [g2 k i hk (hfr i hi),List.getElem?_drop];exact e)
    ·rw [lb2 hi]
     exact w.em i fun d e=>h d (by rw [g3 i hi];exact e)
   nd:=fun i=>by
    by_cases hi:i∈fr
    ·obtain ⟨k,hk⟩:=List.getElem?_of_mem hi
     rw [lb1 hk];exact w'.nd _
    ·rw [lb2 hi];exact w.nd i
   dj:=fun i j a h1 h2=>by
    rcases lb h1 with ⟨k,hk,m⟩ | ⟨hi,m⟩
    ·rcases lb h2 with ⟨k',hk',m'⟩ | ⟨hj,m'⟩
     ·have:=w'.dj _ _ a m m'
      have:k=k':=by omega
      subst this
      rw [hk] at hk'
      exact Option.some.inj hk'
     ·exact absurd (List.mem_append_right _ (List.mem_append_left _ (inR hj m'))) (w'.rj _ a m)
    ·rcases lb h2 with ⟨k',hk',m'⟩ | ⟨hj,m'⟩
     ·exact absurd (List.mem_append_right _ (List.mem_append_left _ (inR hi m))) (w'.rj _ a m')
     ·exact w.dj i j a m m'
   rd:=wR.rd
   rj:=fun i a h z=>by
    rcases lb h with ⟨k,hk,m⟩ | ⟨hi,m⟩
    ·exact wR.rj _ a m z
    ·rcases List.mem_append.mp z with z | z
     ·exact (List.nodup_append.mp w'.rd).2.2 a z a (List.mem_append_left _ (inR hi m)) rfl
     ·exact w.rj i a m z
   nf:=fun i a h=>by
    rcases lb h with ⟨k,hk,m⟩ | ⟨hi,m⟩
    ·exact w'.nf _ a m
    ·exact w'.nr a (List.mem_append_right _ (List.mem_append_left _ (inR hi m)))
   nr:=wR.nr
   tr:=wR.tr
   ft:=wR.ft }
 ·obtain ⟨j,_,_,mj⟩:=uO m
  exact n j mj
 ·rcases lb m with ⟨k,hk,m⟩ | ⟨hi,m⟩
  ·rcases s.src _ a m with ⟨j,h⟩ | h
   ·obtain ⟨j',_,_,mj⟩:=uO h
    exact .inl ⟨j',mj⟩
   ·exact .inr h
  ·exact .inl ⟨i,m⟩
 ·rcases s.srcD a m with ⟨j,h⟩ | h
  ·obtain ⟨j',_,_,mj⟩:=uO h
   exact .inl ⟨j',mj⟩
  ·exact .inr h
end
def kpC (nO:Nat):Nat->Bool:=fun z=>decide (nO<=z)
theorem Uk {K:PySem.W.Frag} {F:Addr->Prop} {H:Hp} {σ : St} {ρ : En} {Ls:Nat->List Addr} {R:List Addr} {own:List Str} {fr:List Nat} {J:It} {ds:List D} {g:fX} {t:fB} {el:bU} {P:List D->En->Prop} {Q:VK}
  (w:WS K F H σ ρ Ls R) (nd:fr.Nodup) (hfr:∀ j∈fr,j < ρ.length) (wk:Wk K F H J ds) (q:jz g t el ds (cSt own.length fr ρ) P)
  (fin:∀ H' F' ys es ρc Ls' Le,Rps K F' H' ys es Le->WS K F' H' σ (wb ρ fr (ρc.drop own.length)) Ls' (Le++R)->Step F H Ls F' H' Ls' Le->P es ρc -> ∀ p,H' p=none->Q (.ref p) (upd H' p (.lst ys))) :
  SQ J own fr σ (Pa K (kpC own.length) g) (qy K t) (kJ K el) Q H:=by
 have wc:=w.block (own:=own) nd
 refine ⟨fun i m ys σ' H'=>m=ds.length - i∧i<=ds.length∧ys.length<=i ∧ ∃ F' ρc Lsc es Le,Rps K F' H' ys es Le∧WS K F' H' σ' ρc Lsc (Le++(lD ρ.length fr Ls++R))∧Step F H (Lc own.length fr Ls) F' H' Lsc Le∧Keeps F H F' H' ∧
  (∀ z,own.length<=z -> σ'[z]? = (jM own fr σ)[z]?) ∧ ρc.length=own.length+fr.length∧jz g t el (ds.drop i) ρc fun es' ρ'=>P (es++es') ρ',
  ⟨ds.length,by simp,Nat.zero_le _,Nat.le_refl _,F,_,_,[],[],.nil,wc,Step.refl,Keeps.refl,fun _ _=>rfl,by simp [cSt],by simpa using q⟩,?_⟩
 rintro i m ys σ1 H1 ⟨rfl,hi,hy,F1,ρ1,Ls1,es,Le,re,w1,s1,k1,e1,l1,q1⟩
 by_cases hlt:i<ds.length
 ·have hd:=List.getElem?_eq_getElem hlt
  rw [List.drop_eq_getElem_cons hlt] at q1
  refine .inr ⟨wk.go i F1 H1 k1 hlt,by have:=wk.small;omega,fun x H2 y=>?_⟩
  obtain ⟨rx,hH⟩:=wk.yld i F1 H1 x H2 _ k1 hd y
  have w2:WS K F1 H2 σ1 ρ1 Ls1 (Le++(lD ρ.length fr Ls++R))∧Step F1 H1 Ls1 F1 H2 Ls1 []∧Keeps F1 H1 F1 H2∧Rps K F1 H2 ys es Le:=by
   rcases hH with rfl | ⟨p,xs,hn,rfl⟩
   ·exact ⟨w1,Step.refl,Keeps.refl,re⟩
   ·exact ⟨w1.laid hn,Step.laid hn,Keeps.laid hn,re.laid hn⟩
  obtain ⟨w2,s2,k2,re2⟩:=w2
  refine ⟨F1,ρ1,Ls1,Le++(lD ρ.length fr Ls++R),_,_,[],w2,rx,q1,fun σ3 ρ3 Ls3 w3 src3 e3 l3 q3=>?_⟩
  have s3:Step F H (Lc own.length fr Ls) F1 H2 Ls3 Le:=((s1.trans s2).trans (Ls2:=Ls3) (F2:=F1) (H2:=H2) (Ld2:=[]) ⟨fun _ _ e _=>e,fun _ h=>h,fun j a h=>(src3 j a h).elim (fun h=>absurd h (by simp)) .inl,fun a h=>absurd h (by simp)⟩).more s1.srcD
  have e3':∀ z,own.length<=z -> σ3[z]? = (jM own fr σ)[z]?:=fun z hz=>(e3 z (decide_eq_true hz)).trans (e1 z hz)
  refine ⟨F1,ρ3,Ls3,Le++(lD ρ.length fr Ls++R),_,w3,q3,fun b H4 ρ4 F4 Ls4 w4 s4 q4=>?_⟩
  have k4:Keeps F H F4 H4:=(k1.trans k2).trans (s4.keeps w3)
  have re4:=re2.step w3 s4 fun a ha=>List.mem_append_left _ ha
  have hl3:∀ {ρ':En} {F':Addr->Prop} {H':Hp} {L':Nat->List Addr} {R':List Addr},WS K F' H' σ3 ρ' L' R' -> ρ'.length=own.length+fr.length:=fun {_ _ _ _ _} z=>by
   rw [z.len,l3,← w1.len,l1]
  cases b with
  | false=>
   dsimp only
   rw [if_neg Bool.false_ne_true] at q4 ⊢
   exact ⟨ds.length - (i+1),by omega,rfl,hlt,by omega,F4,ρ4,Ls4,es,Le,re4,w4,(s3.trans s4).more s3.srcD,k4,e3',hl3 w4,q4⟩
  | true=>
   dsimp only
   rw [if_pos rfl] at q4 ⊢
   refine ⟨F4,ρ4,Ls4,Le++(lD ρ.length fr Ls++R),_,w4,q4,fun v H5 d ρ5 F5 Ls5 Ld rv w5 s5 q5=>?_⟩
   have re5:=re4.step w4 s5 fun a ha=>List.mem_append_left _ ha
   have s45:Step F H (Lc own.length fr Ls) F4 H4 Ls4 Le:=(s3.trans s4).more s3.srcD
   refine ⟨ds.length - (i+1),by omega,rfl,hlt,by rw [List.length_append];simp;omega,F5,ρ5,Ls5,es++[d],Le++(Ld++[]),re5.append (.cons rv .nil),w5.perm ?_,?_,k4.trans (s5.keeps w4),e3',hl3 w5,?_⟩
   ·rw [List.append_nil]
    refine List.Perm.trans (List.perm_append_comm.append_right _) ?_
    rw [List.append_assoc]
   ·rw [List.append_nil];exact s45.both s5
   ·simpa using q5
 ·have e:i=ds.length:=by omega
  subst e
  rw [List.drop_length] at q1
  refine .inl ⟨wk.stop F1 H1 k1,fun p hp=>?_⟩
  obtain ⟨wf,sf⟩:=w.unblock nd hfr w1 s1 e1 l1
  rw [show es=es++[] by simp] at re
  exact fin H1 F1 ys (es++[]) ρ1 _ Le re wf sf q1 p hp
section
variable {X:Cx} {scope:Scope} {own:List Str} {fr:List Nat} {tg elt iter:Expr} {ifs:List Expr} {pos:Pos} {si:qd} {g:fX} {t:fB} {el:bU}
theorem Ig {K:PySem.W.Frag} {σ : St} {H:Hp} {Q:VK} (nd:fr.Nodup) (hf:∀ j∈fr,j < σ.length) (h:kJ K (cO si own.length fr g t el) σ H Q):Ov (YM K si) own fr (Pa K (kpC own.length) g) (qy K t) (kJ K el) σ H Q:=by
 obtain ⟨F,ρ,Ls,R,Qd,w,q,k⟩:=h
 refine ⟨F,ρ,Ls,R,_,w,q,fun J H1 ds ρ1 F1 Ls1 w1 s1 wk q1=>?_⟩
 refine Uk w1 nd (fun j hj=>by rw [w1.len];exact hf j hj) wk q1 fun H2 F2 ys es ρc Ls2 Le re w2 s2 q2 p hp=>?_
 have s12:=s1.trans s2
 refine k (.ref p) _ (.lst true es) _ F2 Ls2 (p :: Le) (.own cW (re.laid hp)) (w2.put hp) ((s12.trans (Step.laid hp)).more fun a ha=>?_) q2
 rcases List.mem_cons.mp ha with rfl | ha
 ·by_cases e:∃ j,a∈Ls j
  ·exact .inl e
  ·cases q:H a with
   | none=>exact .inr rfl
   | some o=>rw [s12.keep a o q fun i z=>e ⟨i,z⟩] at hp;cases hp
 ·exact s12.srcD a ha
theorem PE.wkI {e:Expr} {t t':TE} (h:PE X e t) (k:∀ σ H Q,σ.length=X.N.length->t' σ H Q->t σ H Q):PE X e t':=fun pins s σ H Q I q=>h pins s σ H Q I (k σ H Q I.len q)
theorem PS.wkI {e:Stmt} {t t':TS} (h:PS X e t) (k:∀ D σ H,σ.length=X.N.length->t' D σ H->t D σ H):PS X e t':=fun pins s σ H D I q=>h pins s σ H D I (k D σ H I.len q)
theorem gj (hc:X.calm=true) (hi:SI X tg iter si) (S:CScope X scope own fr) (nd:fr.Nodup) (hg:∀ cl C fp s₂ H₂,SG (X.comp scope (dG X own fr) cl C fp s₂ H₂) (kpC own.length) tg g)
  (ht:∀ cl C fp s₂ H₂,SBs (X.comp scope (dG X own fr) cl C fp s₂ H₂) ifs t) (he:∀ cl C fp s₂ H₂,SE (X.comp scope (dG X own fr) cl C fp s₂ H₂) elt el)
  (hs:∀ x,foldedSetIterable iter X.env x=pure x:=by intro _;rfl):SE X (.ListComp elt [⟨tg,iter,ifs,0⟩] scope pos) (cO si own.length fr g t el):=
 (Rm (g:=Pa X.K (kpC own.length) g) (tt:=qy X.K t) (te:=kJ X.K el) hc hi S hg ht he hs).wkI fun σ H Q hl h=>Ig nd (fun j hj=>by rw [hl];exact (S.frs j hj).1) h
theorem gZ {kp:Nat->Bool} {i:Nat} {y:Str} {py spos:Pos} (hf0:Ii kp i) (hN:X.N.Nodup) (hi:X.N[i]? = some y) (hx:Loc X.env.scope y) (hc:X.calm=true) (hit:SI X tg iter si) (S:CScope X scope own fr) (nd:fr.Nodup)
  (hg:∀ cl C fp s₂ H₂,SG (X.comp scope (dG X own fr) cl C fp s₂ H₂) (kpC own.length) tg g) (ht:∀ cl C fp s₂ H₂,SBs (X.comp scope (dG X own fr) cl C fp s₂ H₂) ifs t) (he:∀ cl C fp s₂ H₂,SE (X.comp scope (dG X own fr) cl C fp s₂ H₂) elt el)
  (hsw:swapsWith (.ListComp elt [⟨tg,iter,ifs,0⟩] scope pos) (some (.Name y py)) spos.line X.env=pure true:=by rfl)
  (hs:∀ x,foldedSetIterable iter X.env x=pure x:=by intro _;rfl) (hf:X.fn y=true∨X.env.scope.names.lookup y=some .local:=by first | exact .inl rfl | exact .inr rfl | assumption) :
  SS X kp (.Assign [.Name y py] (.ListComp elt [⟨tg,iter,ifs,0⟩] scope pos) spos) (bK i (cO si own.length fr g t el)):=
 (Ru (g:=Pa X.K (kpC own.length) g) (tt:=qy X.K t) (te:=kJ X.K el) hN hi hx hc hit S hg ht he hsw hs hf).wkI fun D σ H hl ⟨F,ρ,Ls,R,E,w,q,p⟩=>
  Ig nd (fun j hj=>by rw [hl];exact (S.frs j hj).1) ⟨F,ρ,Ls,R,_,w,q,fun v H1 d ρ1 F1 Ls1 Ld r1 w1 s1 q1=>p.nx _ H1 _ F1 _ (w1.set r1) s1.put (Oc hf0) q1⟩
end
end L2
namespace L2
open PySem PySem.Spec PyProof.Rows
abbrev dg:=List D->(D->Option D->Prop)->Prop
def Em (n:Nat) (x:Option D):En:=(List.replicate n none).set 0 x
def qN (io:Bool) (ρ : En):Option D:=if io=true then (ρ[0]?).getD none else none
def bj (K:PySem.W.Frag) (n:Nat) (io:Bool) (f:dg):Sp:=fun vs H Q _=>vs.length=n ∧ ∃ F ds Ls R Qd,WS K F H (vs.map some) (ds.map some) Ls R∧(∀ j,(io=true->j≠0)->Ls j=[])∧f ds Qd ∧
 ∀ v H' r x F' Ls' Lr,Rp K F' H' v r Lr->WS K F' H' (vs.map some) (Em n x) Ls' (Lr++R)->Step F H Ls F' H' Ls' Lr->Qd r x->Q v H'
def fnS (n m:Nat) (io:Bool) (b:cD):dg:=fun ds Q=>ds.length=n∧b (ds.map some++List.replicate m none) { nx:=fun ρ => Q .non (qN io ρ),rt:=fun d ρ => Q d (qN io ρ) }
def kpF (io:Bool):Nat->Bool:=fun z=>io&&z==0
section
variable {K:PySem.W.Frag} {F:Addr->Prop} {H:Hp} {σ : St} {ρ : En} {Ls:Nat->List Addr} {R:List Addr}
theorem Hk {α : Type} {l:List (Option α)} {m i:Nat} {d : α} (e:(l++List.replicate m none)[i]? = some (some d)):l[i]? = some (some d):=by
 by_cases hi:i<l.length
 ·rw [List.getElem?_append_left hi] at e;exact e
 ·rw [List.getElem?_append_right (by omega),List.getElem?_replicate] at e
  split at e <;> simp at e
theorem WS.pad (w:WS K F H σ ρ Ls R) (m:Nat):WS K F H (σ ++ List.replicate m none) (ρ ++ List.replicate m none) Ls R:=
 { w with
   len:=by rw [List.length_append,List.length_append,w.len];simp
   sl:=fun i d e=>by
    obtain ⟨v,h1,h2⟩:=w.sl i d (Hk e)
    exact ⟨v,by rw [List.getElem?_append_left (List.getElem?_eq_some_iff.mp h1).1];exact h1,h2⟩
   em:=fun i h=>w.em i fun d e=>h d (by rw [List.getElem?_append_left (List.getElem?_eq_some_iff.mp e).1];exact e) }
theorem Mf {n i:Nat} {x:Option D} {d:D} (e:(Em n x)[i]? = some (some d)):i=0∧0<n∧x=some d:=by
 unfold Em at e
 by_cases hi:i=0
 ·subst hi
  cases n with
  | zero=>simp at e
  | succ n=>simp [List.replicate_succ] at e;exact ⟨rfl,Nat.succ_pos _,e⟩
 ·rw [List.getElem?_set_ne (Ne.symm hi),List.getElem?_replicate] at e
  split at e <;> simp at e
theorem zu {n:Nat} {x:Option D} (h:0<n):(Em n x)[0]? = some x:=by
 unfold Em
 exact List.getElem?_set_self (by simpa using h)
theorem WS.only {io:Bool} {vs:List V} {m:Nat} {R:List Addr} (w:WS K F H σ ρ Ls R) (h:∀ z,kpF io z=true -> σ[z]? = (vs.map some++List.replicate m none)[z]?) :
  ∃ Ls',WS K F H (vs.map some) (Em vs.length (qN io ρ)) Ls' R ∧ ∀ i a,a∈Ls' i->a∈Ls i:=by
 refine ⟨fun i=>if io=true∧i=0∧0<vs.length then Ls 0 else [],?_,fun i a m=>?_⟩
 ·have sub:∀ {i:Nat} {a:Addr},a∈(if io=true∧i=0∧0<vs.length then Ls 0 else [])->i=0∧a∈Ls 0:=fun {i a} m=>by
   by_cases c:io=true∧i=0∧0<vs.length
   ·rw [if_pos c] at m;exact ⟨c.2.1,m⟩
   ·rw [if_neg c] at m;simp at m
  exact {
   len:=by simp [Em]
   sl:=fun i d e=>by
    obtain ⟨rfl,hn,e⟩:=Mf e
    unfold qN at e
    by_cases hio:io=true
    ·rw [if_pos hio] at e
     have e1 : ρ[0]? = some (some d):=by
      cases q : ρ[0]? with
      | none=>rw [q] at e;simp at e
      | some o=>rw [q] at e;simp at e;rw [e]
     obtain ⟨v,h1,h2⟩:=w.sl 0 d e1
     rw [h 0 (by unfold kpF;rw [hio];rfl)] at h1
     exact ⟨v,Hk h1,by rw [if_pos ⟨hio,rfl,hn⟩];exact h2⟩
    ·rw [if_neg hio] at e;cases e
   em:=fun i hi=>by
    by_cases c:io=true∧i=0∧0<vs.length
    ·rw [if_pos c]
     refine w.em 0 fun d e=>hi d ?_
     rw [c.2.1,zu c.2.2]
     unfold qN
     rw [if_pos c.1,e];rfl
    ·rw [if_neg c]
   nd:=fun i=>by
    by_cases c:io=true∧i=0∧0<vs.length
    ·rw [if_pos c];exact w.nd 0
    ·rw [if_neg c];exact List.nodup_nil
   dj:=fun i j a h1 h2=>(sub h1).1.trans (sub h2).1.symm
   rd:=w.rd
   rj:=fun i a m=>w.rj 0 a (sub m).2
   nf:=fun i a m=>w.nf 0 a (sub m).2
   nr:=w.nr
   tr:=w.tr
   ft:=w.ft }
 ·dsimp only at m
  by_cases c:io=true∧i=0∧0<vs.length
  ·rw [if_pos c] at m;rw [c.2.1];exact m
  ·rw [if_neg c] at m;simp at m
end
theorem Lq {CX:CXT} {P:Program} {w:World} {K:PySem.W.Frag} {mg:Str->Option Value} {base:Heap} {k:Nat} {f:Addr} {name qual:Str} {params:Arguments} {body:List Stmt} {scope:Scope} {dV kV doc pm cdv ct oc:Value} {an od:Option Addr}
  {osl:Array (Option Value)} {N ps:List Str} {io:Bool} {b:cD} (lk:K.lookup f=some ⟨oc,od,.func (PySem.W.fnOf name qual params body scope dV kV doc pm an cdv ct),osl⟩) (hcd:PySem.W.codeIn K cdv qual=true) (S:FnScope N ps scope)
  (hb:∀ (A:Around) (outer:List Env) (s:Shared) (H:Hp) (E:XK),Room k (A.deeper (envOfC qual scope s.heap.objs.size f cdv))->SL (ul CX P w K mg base N qual scope f cdv A outer s H E) (kpF io) body b) :
  FnOk P w K mg base CX (k+1) f (PySem.W.fnOf name qual params body scope dV kV doc pm an cdv ct) ps (bj K ps.length io (fnS ps.length (N.length - ps.length) io b)):=
 Ti lk hcd S (fun vs H Q E h=>h.1) fun A outer s H vs Q E hr hsp=>by
  obtain ⟨hl,F,ds,Ls,R,Qd,ws,hL,⟨hd,q⟩,fin⟩:=hsp
  refine ⟨_,hb A outer s H E hr,F,_,Ls,R,_,?_,q,⟨fun σ' H' ρ' F' Ls' w' s' e' q'=>?_,fun v σ' H' d ρ' F' Ls' Ld r' w' s' e' q'=>?_,fun _ _ _ _ _ _ _ _ z=>z.elim,fun _ _ _ _ _ _ _ _ z=>z.elim⟩⟩
  ·have:=ws.pad (N.length - ps.length)
   unfold start
   rw [hl]
   exact this
  ·obtain ⟨Ls2,w2,sub⟩:=w'.only (vs:=vs) (m:=N.length - vs.length) e'
   rw [hl] at w2
   exact fin .non H' .non _ F' Ls2 [] .non w2 ⟨s'.keep,s'.mono,fun i a m=>s'.src i a (sub i a m),fun a h=>absurd h (by simp)⟩ q'
  ·obtain ⟨Ls2,w2,sub⟩:=w'.only (vs:=vs) (m:=N.length - vs.length) e'
   rw [hl] at w2
   exact fin v H' d _ F' Ls2 Ld r' w2 ⟨s'.keep,s'.mono,fun i a m=>s'.src i a (sub i a m),s'.srcD⟩ q'
def cz:List AD->List Nat
 | []=>[]
 | .val _ :: as=>cz as
 | .nam i :: as=>i :: cz as
def eE (ρ : En):List Nat->En
 | []=>ρ
 | i :: is=>match (eE ρ is)[i]? with
  | some (some d)=>(eE ρ is).set i (some d.fz)
  | _=>eE ρ is
def aft (ρ : En) (as:List AD) (cl:Bool):En:=if (cQ ρ as||cl)=true then ρ else eE ρ (cz as)
def aV (n:Nat) (f:dg) (os:List Opd):bU:=fun ρ Q=>eQ os ρ fun as ρ'=>∃ ds,bG ρ' as=some ds∧ds.length=n∧f (D.fzs ds) fun r _=>Q r (aft ρ' as r.clean)
def clO:Option D->Bool
 | some d=>d.clean
 | none=>true
def cG (n:Nat) (f:dg) (i:Nat) (os:List Opd):bU:=fun ρ Q=>eQ (.nam i :: os) ρ fun as0 ρ'=>∃ d0 as ds,as0 = .nam i :: as ∧ ρ'[i]? = some (some d0)∧bG ρ' as=some ds∧ds.length+1=n∧i ∉ cz as ∧
 f (d0 :: D.fzs ds) fun r x=>(cQ ρ' as||(r.clean&&clO x))=true∧Q r (ρ'.set i x)
section
variable {K:PySem.W.Frag} {F:Addr->Prop} {H:Hp} {σ : St} {ρ : En} {Ls:Nat->List Addr} {R:List Addr}
theorem nq (w:WS K F H σ ρ Ls R):∀ {as:List AD},cQ ρ as=true -> ∀ i∈cz as,Ls i=[]
 | [],_,i,h=>absurd h (by simp [cz])
 | .val _ :: as,e,i,h=>nq w (as:=as) e i h
 | .nam j :: as,e,i,h=>by
  rw [cQ,Bool.and_eq_true] at e
  rcases List.mem_cons.mp h with z | z
  ·subst z
   cases q : ρ[i]? with
   | none=>exact w.em i fun d z=>by rw [q] at z;cases z
   | some o=>
    cases o with
    | none=>exact w.em i fun d z=>by rw [q] at z;cases z
    | some d=>
     obtain ⟨v,_,r⟩:=w.sl i d q
     rw [q] at e
     exact r.sh_nil e.1
  ·exact nq w e.2 i z
theorem RpA.share (w:WS K F H σ ρ Ls R) {F':Addr->Prop} (hF:∀ a,F a->F' a):∀ {vs:List V} {as:List AD} {La:List Addr} {ds:List D},RpA K F H σ vs as La->bG ρ as=some ds->(∀ a∈La,F' a)->(∀ i∈cz as,∀ a∈Ls i,F' a)->Rps K F' H vs (D.fzs ds) []
 | _,_,_,_,.nil,e,_,_=>by cases e;rw [D.fzs];exact .nil
 | _,_,_,_,.val r rs,e,h1,h2=>by
  obtain ⟨d,ds,e1,e2,rfl⟩:=lw e
  cases e1
  rw [D.fzs]
  exact .cons (L:=[]) (M:=[]) (r.freeze hF fun a ha=>h1 a (List.mem_append_left _ ha)) (RpA.share w hF rs e2 (fun a ha=>h1 a (List.mem_append_right _ ha)) h2)
 | _,_,_,_,.nam (i:=i) hi rs,e,h1,h2=>by
  obtain ⟨d,ds,e1,e2,rfl⟩:=lw e
  obtain ⟨v,hv,r⟩:=w.sl i d (Hj e1)
  rw [hi] at hv
  cases hv
  rw [D.fzs]
  exact .cons (L:=[]) (M:=[]) (r.freeze hF (h2 i List.mem_cons_self)) (RpA.share w hF rs e2 h1 fun j hj=>h2 j (List.mem_cons_of_mem _ hj))
theorem Rps.slots {vs:List V} {ds:List D} (r:Rps K F H vs ds []):∀ (i:Nat) (d:D),(ds.map some)[i]? = some (some d) -> ∃ v,(vs.map some)[i]? = some (some v)∧Rp K F H v d []:=fun i d e=>by
 rw [List.getElem?_map] at e
 obtain ⟨d',e1,e2⟩:=Option.map_eq_some_iff.mp e
 cases e2
 obtain ⟨v,M,h1,h2,h3⟩:=r.get e1
 cases List.sublist_nil.mp h3
 exact ⟨v,by rw [List.getElem?_map,h1];rfl,h2⟩
end
section
variable {K:PySem.W.Frag} {F:Addr->Prop} {H:Hp} {σ : St} {ρ : En} {Ls:Nat->List Addr} {R:List Addr}
theorem tE:∀ is:List Nat,(eE ρ is).length = ρ.length
 | []=>rfl
 | i :: is=>by
  unfold eE
  split
  ·rw [List.length_set];exact tE is
  ·exact tE is
theorem mG:∀ (is:List Nat) (j:Nat),(j ∉ is->(eE ρ is)[j]? = ρ[j]?)∧(j∈is->(eE ρ is)[j]? = (ρ[j]?).map fun o=>o.map D.fz)
 | [],j=>⟨fun _=>rfl,fun h=>absurd h (by simp)⟩
 | i :: is,j=>by
  obtain ⟨h1,h2⟩:=mG is j
  have hi:=mG is i
  have both:(eE ρ is)[i]? = ρ[i]? ∨ (eE ρ is)[i]? = (ρ[i]?).map fun o=>o.map D.fz:=by
   by_cases m:i∈is
   ·exact .inr (hi.2 m)
   ·exact .inl (hi.1 m)
  have atI:(eE ρ (i :: is))[i]? = (ρ[i]?).map fun o=>o.map D.fz:=by
   unfold eE
   split
   ·rename_i d e
    have hl:=(List.getElem?_eq_some_iff.mp e).1
    rw [List.getElem?_set_self hl]
    rcases both with b | b
    ·rw [← b,e];rfl
    ·rw [← b,e]
     rw [e] at b
     cases q : ρ[i]? with
     | none=>rw [q] at b;cases b
     | some o=>
      rw [q] at b
      cases o with
      | none=>simp at b
      | some d'=>simp at b;rw [b,D.fz_fz]
   ·rename_i n
    cases q:(eE ρ is)[i]? with
    | none=>
     rcases both with b | b
     ·rw [← b,q];rfl
     ·rw [← b,q]
    | some o=>
     cases o with
     | none=>
      rcases both with b | b
      ·rw [← b,q];rfl
      ·rw [← b,q]
     | some d=>exact absurd q (n d)
  by_cases e:j=i
  ·subst e
   exact ⟨fun h=>absurd List.mem_cons_self h,fun _=>atI⟩
  ·have same:(eE ρ (i :: is))[j]? = (eE ρ is)[j]?:=by
    show (match (eE ρ is)[i]? with | some (some d)=>(eE ρ is).set i (some d.fz) | _=>eE ρ is)[j]? = _
    split
    ·rw [List.getElem?_set_ne (Ne.symm e)]
    ·rfl
   refine ⟨fun h=>by rw [same];exact h1 fun z=>h (List.mem_cons_of_mem _ z),fun h=>?_⟩
   rw [same]
   exact h2 ((List.mem_cons.mp h).resolve_left e)
theorem WS.shared {F':Addr->Prop} {H':Hp} {R':List Addr} {is:List Nat} (w:WS K F H σ ρ Ls R) (h:∀ i∈is,∀ d,ρ[i]? = some (some d) -> ∃ v,σ[i]? = some (some v)∧Rp K F' H' v d.fz [])
  (w':WS K F' H' σ (is.foldr (fun i ρ => ρ.set i none) ρ) (fun i=>if i∈is then [] else Ls i) R'):WS K F' H' σ (eE ρ is) (fun i=>if i∈is then [] else Ls i) R':=by
 have get:∀ (js:List Nat) (j:Nat),(j ∉ js->(js.foldr (fun i ρ => ρ.set i none) ρ)[j]? = ρ[j]?):=by
  intro js
  induction js with
  | nil=>intro j _;rfl
  | cons a js ih=>
   intro j hj
   show ((js.foldr (fun i ρ => ρ.set i none) ρ).set a none)[j]? = _
   rw [List.getElem?_set_ne fun z=>hj (by rw [z];exact List.mem_cons_self)]
   exact ih j fun z=>hj (List.mem_cons_of_mem _ z)
 exact { w' with
  len:=by rw [tE];exact w.len
  sl:=fun i d e=>by
   by_cases m:i∈is
   ·rw [(mG is i).2 m] at e
    cases q : ρ[i]? with
    | none=>rw [q] at e;cases e
    | some o=>
     rw [q] at e
     cases o with
     | none=>simp at e
     | some d'=>
      simp at e
      subst e
      obtain ⟨v,h1,h2⟩:=h i m d' q
      exact ⟨v,h1,by rw [if_pos m];exact h2⟩
   ·rw [(mG is i).1 m] at e
    exact w'.sl i d (by rw [get is i m];exact e)
  em:=fun i hi=>by
   by_cases m:i∈is
   ·rw [if_pos m]
   ·rw [if_neg m]
    refine w.em i fun d e=>hi d ?_
    rw [(mG is i).1 m];exact e }
end
section
variable {X:Cx} {CX:CXT} {k n:Nat} {f:Addr} {fd:FuncData} {ps:List Str} {sf:dg} {E:XK} {x:Str} {p pos:Pos} {e:Expr} {es:List Expr} {os:List Opd} {K:PySem.W.Frag} {σ : St} {H:Hp}
theorem Ss {Q:VK} (h:kJ K (aV n sf os) σ H Q):tK K os σ H fun vs H1=>bj K n false sf (vs++[]) H1 Q E:=by
 obtain ⟨F,ρ,Ls,R,Qd,w,q,kk⟩:=h
 refine ⟨F,ρ,Ls,R,_,w,q,fun vs H1 as ρ1 F1 Ls1 La r1 w1 s1 ⟨ds,e1,hn,q1⟩=>?_⟩
 show bj K n false sf (vs++[]) H1 Q E
 rw [List.append_nil]
 have hF2:∀ a,F1 a->(F1 a∨a∈La ∨ ∃ i∈cz as,a∈Ls1 i):=fun a h=>.inl h
 have rs:=r1.share w1 (F':=fun a=>F1 a∨a∈La ∨ ∃ i∈cz as,a∈Ls1 i) hF2 e1 (fun a h=>.inr (.inl h)) fun i hi a ha=>.inr (.inr ⟨i,hi,ha⟩)
 have hlen:vs.length=n:=by rw [rs.length,D.fzs_eq,List.length_map];exact hn
 have hrd:=List.nodup_append.mp w1.rd
 have inR:∀ {i:Nat} {a:Addr},i ∉ cz as->a∈Ls1 i->a∈lD ρ1.length (cz as) Ls1:=fun {i a} h m=>dC.mpr ⟨i,by
  by_cases hi:i < ρ1.length
  ·exact hi
  ·rw [w1.em i fun d e=>by rw [List.getElem?_eq_none (by omega)] at e;cases e] at m;simp at m,h,m⟩
 have w2:WS K (fun a=>F1 a∨a∈La ∨ ∃ i∈cz as,a∈Ls1 i) H1 (vs.map some) ((D.fzs ds).map some) (fun _=>[]) (lD ρ1.length (cz as) Ls1++R):={
  len:=by rw [List.length_map,List.length_map,rs.length]
  sl:=rs.slots
  em:=fun _ _=>rfl
  nd:=fun _=>List.nodup_nil
  dj:=fun i j a h _=>absurd h (by simp)
  rd:=by
   rw [List.nodup_append]
   refine ⟨mV w1.nd w1.dj (List.nodup_range.filter _),hrd.2.1,fun a ha b hb e=>?_⟩
   subst e
   obtain ⟨i,_,_,hi⟩:=dC.mp ha
   exact w1.rj i a hi (List.mem_append_right _ hb)
  rj:=fun i a h=>absurd h (by simp)
  nf:=fun i a h=>absurd h (by simp)
  nr:=fun a m z=>by
   rcases List.mem_append.mp m with m | m
   ·obtain ⟨i,_,hi,mi⟩:=dC.mp m
    rcases z with z | z | ⟨j,hj,z⟩
    ·exact w1.nf i a mi z
    ·exact w1.rj i a mi (List.mem_append_left _ z)
    ·rw [w1.dj i j a mi z] at hi;exact hi hj
   ·rcases z with z | z | ⟨j,hj,z⟩
    ·exact w1.nr a (List.mem_append_right _ m) z
    ·exact hrd.2.2 a z a m rfl
    ·exact w1.rj j a z (List.mem_append_right _ m)
  tr:=fun a m=>by
   rcases List.mem_append.mp m with m | m
   ·obtain ⟨i,_,hi,mi⟩:=dC.mp m
    exact w1.own mi
   ·exact w1.tr a (List.mem_append_right _ m)
  ft:=fun a z=>by
   rcases z with z | z | ⟨j,hj,z⟩
   ·exact w1.ft a z
   ·obtain ⟨xs,e⟩:=w1.tr a (List.mem_append_left _ z);rw [e];simp
   ·obtain ⟨xs,e⟩:=w1.own z;rw [e];simp }
 refine ⟨hlen,_,_,_,_,_,w2,fun _ _=>rfl,q1,fun v H' r x F' Ls' Lr rr wr sr qr=>?_⟩
 have keep:∀ a o,H1 a=some o->H' a=some o:=fun a o e=>sr.keep a o e fun _ z=>absurd z (by simp)
 have fresh:∀ a∈Lr,H1 a=none:=fun a m=>(sr.srcD a m).elim (fun ⟨_,z⟩=>absurd z (by simp)) id
 have hLr:=List.nodup_append.mp wr.rd
 have rd3:(Lr++R).Nodup:=by
  rw [List.nodup_append]
  exact ⟨hLr.1,hrd.2.1,fun a ha b hb e=>hLr.2.2 a ha b (List.mem_append_right _ hb) e⟩
 have tr3:∀ a∈Lr++R,∃ xs,H' a=some (.lst xs):=fun a m=>by
  rcases List.mem_append.mp m with m | m
  ·exact wr.tr a (List.mem_append_left _ m)
  ·exact wr.tr a (List.mem_append_right _ (List.mem_append_right _ m))
 have nr3:∀ a∈Lr++R,¬ F' a:=fun a m=>by
  rcases List.mem_append.mp m with m | m
  ·exact wr.nr a (List.mem_append_left _ m)
  ·exact wr.nr a (List.mem_append_right _ (List.mem_append_right _ m))
 have rj3:∀ i a,a∈Ls1 i->a ∉ Lr++R:=fun i a m z=>by
  rcases List.mem_append.mp z with z | z
  ·obtain ⟨xs,e⟩:=w1.own m;rw [fresh a z] at e;cases e
  ·exact w1.rj i a m (List.mem_append_right _ z)
 unfold aft at qr
 by_cases hc:(cQ ρ1 as||r.clean)=true
 ·rw [if_pos hc] at qr
  rw [Bool.or_eq_true] at hc
  have r3:Rp K (fun a=>F' a ∧ ∀ i∈cz as,a ∉ Ls1 i) H' v r Lr:=by
   rcases hc with hc | hc
   ·exact rr.mono (fun a h=>⟨h,fun i hi z=>by rw [nq w1 hc i hi] at z;simp at z⟩) (fun _ _ e _=>e) (fun _ _ _ e=>e) fun _ _ _ e=>e
   ·exact rr.clean hc
  have F13:∀ a,F1 a->F' a ∧ ∀ i∈cz as,a ∉ Ls1 i:=fun a h=>⟨sr.mono a (.inl h),fun i _ z=>w1.nf i a z h⟩
  refine kk v H' r ρ1 (fun a=>F' a ∧ ∀ i∈cz as,a ∉ Ls1 i) Ls1 Lr r3 ?_ ?_ qr
  ·exact {
    len:=w1.len
    sl:=fun i d e=>let ⟨u,h1,h2⟩:=w1.sl i d e;⟨u,h1,h2.mono F13 (fun a o e _=>keep a o e) (fun a o _ e=>keep a o e) fun a _ o e=>keep a o e⟩
    em:=w1.em
    nd:=w1.nd
    dj:=w1.dj
    rd:=rd3
    rj:=rj3
    nf:=fun i a m z=>by
     by_cases hi:i∈cz as
     ·exact z.2 i hi m
     ·exact wr.nr a (List.mem_append_right _ (List.mem_append_left _ (inR hi m))) z.1
    nr:=fun a m z=>nr3 a m z.1
    tr:=tr3
    ft:=fun a z=>wr.ft a z.1 }
  ·exact s1.trans ⟨fun a o e _=>keep a o e,F13,fun i a m=>.inl ⟨i,m⟩,fun a m=>.inr (fresh a m)⟩
 ·rw [if_neg hc] at qr
  have own2:∀ {i:Nat} {a:Addr},a∈(if i∈cz as then [] else Ls1 i)->i ∉ cz as∧a∈Ls1 i:=fun {i a} m=>by
   by_cases c:i∈cz as
   ·rw [if_pos c] at m;simp at m
   ·rw [if_neg c] at m;exact ⟨c,m⟩
  have F13:∀ a,F1 a->F' a:=fun a h=>sr.mono a (.inl h)
  refine kk v H' r (eE ρ1 (cz as)) F' (fun i=>if i∈cz as then [] else Ls1 i) Lr rr (w1.shared (fun i hi d e=>?_) ?_) ?_ qr
  ·obtain ⟨u,h1,h2⟩:=w1.sl i d e
   refine ⟨u,h1,?_⟩
   have:=h2.freeze (F':=F') F13 fun a ha=>sr.mono a (.inr (.inr ⟨i,hi,ha⟩))
   exact this.mono (fun _ h=>h) (fun a o e _=>keep a o e) (fun a o _ e=>keep a o e) fun a h=>absurd h (by simp)
  ·have get:∀ (js:List Nat) (j:Nat) (d:D),(js.foldr (fun i ρ => ρ.set i none) ρ1)[j]? = some (some d)->j ∉ js ∧ ρ1[j]? = some (some d):=by
    intro js
    induction js with
    | nil=>intro j d e;exact ⟨by simp,e⟩
    | cons a js ih=>
     intro j d e
     have e':((js.foldr (fun i ρ => ρ.set i none) ρ1).set a none)[j]? = some (some d):=e
     by_cases c:a=j
     ·subst c
      by_cases hl:a<(js.foldr (fun i (ρ : En)=>ρ.set i none) ρ1).length
      ·rw [List.getElem?_set_self hl] at e';cases e'
      ·rw [List.set_eq_of_length_le (by omega),List.getElem?_eq_none (by omega)] at e';cases e'
     ·rw [List.getElem?_set_ne c] at e'
      obtain ⟨h1,h2⟩:=ih j d e'
      exact ⟨fun z=>(List.mem_cons.mp z).elim (fun q=>c q.symm) h1,h2⟩
   have len:∀ js:List Nat,(js.foldr (fun i (ρ : En)=>ρ.set i none) ρ1).length = ρ1.length:=by
    intro js
    induction js with
    | nil=>rfl
    | cons a js ih=>show ((js.foldr (fun i ρ => ρ.set i none) ρ1).set a none).length=_;rw [List.length_set];exact ih
   have getN:∀ (js:List Nat) (j:Nat),j ∉ js->(js.foldr (fun i (ρ : En)=>ρ.set i none) ρ1)[j]? = ρ1[j]?:=by
    intro js
    induction js with
    | nil=>intro j _;rfl
    | cons a js ih=>
     intro j hj
     show ((js.foldr (fun i ρ => ρ.set i none) ρ1).set a none)[j]? = _
     rw [List.getElem?_set_ne fun z=>hj (by rw [z];exact List.mem_cons_self)]
     exact ih j fun z=>hj (List.mem_cons_of_mem _ z)
   exact {
    len:=(len _).trans w1.len
    sl:=fun i d e=>by
     obtain ⟨h1,h2⟩:=get _ i d e
     obtain ⟨u,h3,h4⟩:=w1.sl i d h2
     exact ⟨u,h3,by rw [if_neg h1];exact h4.mono F13 (fun a o e _=>keep a o e) (fun a o _ e=>keep a o e) fun a _ o e=>keep a o e⟩
    em:=fun i h=>by
     by_cases c:i∈cz as
     ·rw [if_pos c]
     ·rw [if_neg c];exact w1.em i fun d e=>h d (by rw [getN _ i c];exact e)
    nd:=fun i=>by
     by_cases c:i∈cz as
     ·rw [if_pos c];exact List.nodup_nil
     ·rw [if_neg c];exact w1.nd i
    dj:=fun i j a h h'=>w1.dj i j a (own2 h).2 (own2 h').2
    rd:=rd3
    rj:=fun i a m=>rj3 i a (own2 m).2
    nf:=fun i a m z=>wr.nr a (List.mem_append_right _ (List.mem_append_left _ (inR (own2 m).1 (own2 m).2))) z
    nr:=nr3
    tr:=tr3
    ft:=wr.ft }
  ·exact s1.trans ⟨fun a o e _=>keep a o e,F13,fun i a m=>.inl ⟨i,(own2 m).2⟩,fun a m=>.inr (fresh a m)⟩
theorem Ox {Q:VK} {i:Nat} (h:kJ K (cG n sf i os) σ H Q):tK K (.nam i :: os) σ H fun vs H1=>bj K n true sf (vs++[]) H1 Q E:=by
 obtain ⟨F,ρ,Ls,R,Qd,w,q,kk⟩:=h
 refine ⟨F,ρ,Ls,R,_,w,q,fun vs0 H1 as0 ρ1 F1 Ls1 La r0 w1 s1 ⟨d0,as,ds,e0,ei,e1,hn,hi,q1⟩=>?_⟩
 subst e0
 show bj K n true sf (vs0++[]) H1 Q E
 rw [List.append_nil]
 cases r0 with
 | @nam v0 vs _ _ _ hv r1=>
 obtain ⟨v0',hv',rp0⟩:=w1.sl i d0 ei
 rw [hv] at hv'
 cases hv'
 have hF2:∀ a,F1 a->(F1 a∨a∈La ∨ ∃ j∈cz as,a∈Ls1 j):=fun a h=>.inl h
 have rs:=r1.share w1 (F':=fun a=>F1 a∨a∈La ∨ ∃ j∈cz as,a∈Ls1 j) hF2 e1 (fun a h=>.inr (.inl h)) fun j hj a ha=>.inr (.inr ⟨j,hj,ha⟩)
 have hlen:(v0 :: vs).length=n:=by rw [List.length_cons,rs.length,D.fzs_eq,List.length_map];exact hn
 have hrd:=List.nodup_append.mp w1.rd
 have inR:∀ {j:Nat} {a:Addr},j ∉ i :: cz as->a∈Ls1 j->a∈lD ρ1.length (i :: cz as) Ls1:=fun {j a} h m=>dC.mpr ⟨j,by
  by_cases hj:j < ρ1.length
  ·exact hj
  ·rw [w1.em j fun d e=>by rw [List.getElem?_eq_none (by omega)] at e;cases e] at m;simp at m,h,m⟩
 have rp0':Rp K (fun a=>F1 a∨a∈La ∨ ∃ j∈cz as,a∈Ls1 j) H1 v0 d0 (Ls1 i):=rp0.mono hF2 (fun _ _ e _=>e) (fun _ _ _ e=>e) fun _ _ _ e=>e
 have l0:∀ {j:Nat} {a:Addr},a∈(if j=0 then Ls1 i else [])->j=0∧a∈Ls1 i:=fun {j a} m=>by
  by_cases c:j=0
  ·rw [if_pos c] at m;exact ⟨c,m⟩
  ·rw [if_neg c] at m;simp at m
 have w2:WS K (fun a=>F1 a∨a∈La ∨ ∃ j∈cz as,a∈Ls1 j) H1 ((v0 :: vs).map some) ((d0 :: D.fzs ds).map some) (fun j=>if j=0 then Ls1 i else []) (lD ρ1.length (i :: cz as) Ls1++R):={
  len:=by rw [List.length_map,List.length_map,List.length_cons,List.length_cons,rs.length]
  sl:=fun j d e=>by
   cases j with
   | zero=>simp at e;subst e;exact ⟨v0,rfl,rp0'⟩
   | succ j=>
    obtain ⟨u,h1,h2⟩:=rs.slots j d (by simpa using e)
    exact ⟨u,by simpa using h1,by simpa using h2⟩
  em:=fun j h=>by
   cases j with
   | zero=>exact absurd rfl (h d0)
   | succ j=>rfl
  nd:=fun j=>by
   by_cases c:j=0
   ·rw [if_pos c];exact w1.nd i
   ·rw [if_neg c];exact List.nodup_nil
  dj:=fun j j' a h h'=>(l0 h).1.trans (l0 h').1.symm
  rd:=by
   rw [List.nodup_append]
   refine ⟨mV w1.nd w1.dj (List.nodup_range.filter _),hrd.2.1,fun a ha b hb e=>?_⟩
   subst e
   obtain ⟨j,_,_,hj⟩:=dC.mp ha
   exact w1.rj j a hj (List.mem_append_right _ hb)
  rj:=fun j a h m=>by
   have hm:=(l0 h).2
   rcases List.mem_append.mp m with m | m
   ·obtain ⟨j',_,hj,mj⟩:=dC.mp m
    exact hj (by rw [w1.dj j' i a mj hm];exact List.mem_cons_self)
   ·exact w1.rj i a hm (List.mem_append_right _ m)
  nf:=fun j a h z=>by
   have hm:=(l0 h).2
   rcases z with z | z | ⟨j',hj,z⟩
   ·exact w1.nf i a hm z
   ·exact w1.rj i a hm (List.mem_append_left _ z)
   ·exact hi (by rw [w1.dj i j' a hm z];exact hj)
  nr:=fun a m z=>by
   rcases List.mem_append.mp m with m | m
   ·obtain ⟨j,_,hj,mj⟩:=dC.mp m
    rcases z with z | z | ⟨j',hj',z⟩
    ·exact w1.nf j a mj z
    ·exact w1.rj j a mj (List.mem_append_left _ z)
    ·rw [w1.dj j j' a mj z] at hj;exact hj (List.mem_cons_of_mem _ hj')
   ·rcases z with z | z | ⟨j',hj',z⟩
    ·exact w1.nr a (List.mem_append_right _ m) z
    ·exact hrd.2.2 a z a m rfl
    ·exact w1.rj j' a z (List.mem_append_right _ m)
  tr:=fun a m=>by
   rcases List.mem_append.mp m with m | m
   ·obtain ⟨j,_,hj,mj⟩:=dC.mp m
    exact w1.own mj
   ·exact w1.tr a (List.mem_append_right _ m)
  ft:=fun a z=>by
   rcases z with z | z | ⟨j,hj,z⟩
   ·exact w1.ft a z
   ·obtain ⟨xs,e⟩:=w1.tr a (List.mem_append_left _ z);rw [e];simp
   ·obtain ⟨xs,e⟩:=w1.own z;rw [e];simp }
 refine ⟨hlen,_,_,_,_,_,w2,fun j hj=>if_neg (hj rfl),q1,fun v H' r x F' Ls' Lr rr wr sr qr=>?_⟩
 obtain ⟨hc,qr⟩:=qr
 have keep:∀ a o,H1 a=some o->a ∉ Ls1 i->H' a=some o:=fun a o e n=>sr.keep a o e fun _ z=>n (l0 z).2
 have fresh:∀ a∈Lr,a∈Ls1 i∨H1 a=none:=fun a m=>(sr.srcD a m).imp (fun ⟨_,z⟩=>(l0 z).2) id
 have fresh0:∀ a∈Ls' 0,a∈Ls1 i∨H1 a=none:=fun a m=>(sr.src 0 a m).imp (fun ⟨_,z⟩=>(l0 z).2) id
 have cl:∀ {u:V} {y:D} {L:List Addr},Rp K F' H' u y L->(cQ ρ1 as=true∨y.clean=true)->Rp K (fun a=>F' a ∧ ∀ j∈cz as,a ∉ Ls1 j) H' u y L:=fun {u y L} rr hc=>by
  rcases hc with hc | hc
  ·exact rr.mono (fun a h=>⟨h,fun j hj z=>by rw [nq w1 hc j hj] at z;simp at z⟩) (fun _ _ e _=>e) (fun _ _ _ e=>e) fun _ _ _ e=>e
  ·exact rr.clean hc
 rw [Bool.or_eq_true,Bool.and_eq_true] at hc
 have r3:=cl rr (hc.imp id (·.1))
 have hLr:=List.nodup_append.mp wr.rd
 have F13:∀ a,F1 a->F' a ∧ ∀ j∈cz as,a ∉ Ls1 j:=fun a h=>⟨sr.mono a (.inl h),fun j _ z=>w1.nf j a z h⟩
 have hpos:0<n:=by omega
 have hil:i < ρ1.length:=(List.getElem?_eq_some_iff.mp ei).1
 have src:∀ {j:Nat} {a:Addr},a∈kY Ls1 i (Ls' 0) j->(j=i∧a∈Ls' 0)∨(j≠i∧a∈Ls1 j):=fun {j a} m=>by
  by_cases c:j=i
  ·rw [c,aY] at m;exact .inl ⟨c,m⟩
  ·rw [bB c] at m;exact .inr ⟨c,m⟩
 have out:∀ {j:Nat} {a:Addr},j≠i->a∈Ls1 j->a ∉ Ls' 0∧a ∉ Lr:=fun {j a} c m=>by
  have h:a ∉ Ls1 i∧H1 a≠none:=⟨fun z=>c (w1.dj j i a m z),by obtain ⟨xs,e⟩:=w1.own m;rw [e];simp⟩
  exact ⟨fun z=>(fresh0 a z).elim h.1 h.2,fun z=>(fresh a z).elim h.1 h.2⟩
 refine kk v H' r (ρ1.set i x) (fun a=>F' a ∧ ∀ j∈cz as,a ∉ Ls1 j) (kY Ls1 i (Ls' 0)) Lr r3 ?_ ?_ qr
 ·exact {
   len:=by rw [List.length_set];exact w1.len
   sl:=fun j d e=>by
    by_cases c:j=i
    ·subst c
     rw [List.getElem?_set_self hil] at e
     have ex:x=some d:=Option.some.inj e
     obtain ⟨u,h1,h2⟩:=wr.sl 0 d (by rw [zu hpos,ex])
     have:u=v0:=by simpa using h1.symm
     subst this
     exact ⟨u,hv,by rw [aY];exact cl h2 (hc.imp id fun h=>by have:=h.2;rw [ex] at this;exact this)⟩
    ·rw [List.getElem?_set_ne (Ne.symm c)] at e
     obtain ⟨u,h1,h2⟩:=w1.sl j d e
     refine ⟨u,h1,?_⟩
     rw [bB c]
     refine h2.mono F13 (fun a o e st=>keep a o e fun z=>?_) (fun a o f e=>keep a o e fun z=>w1.nf i a z f) fun a ha o e=>keep a o e fun z=>c (w1.dj j i a ha z)
     obtain ⟨xs,q⟩:=w1.own z
     rw [e] at q;cases q;exact st
   em:=fun j h=>by
    by_cases c:j=i
    ·subst c
     rw [aY]
     refine wr.em 0 fun d e=>h d ?_
     rw [zu hpos] at e
     rw [List.getElem?_set_self hil,Option.some.inj e]
    ·rw [bB c]
     exact w1.em j fun d e=>h d (by rw [List.getElem?_set_ne (Ne.symm c)];exact e)
   nd:=fun j=>by
    by_cases c:j=i
    ·rw [c,aY];exact wr.nd 0
    ·rw [bB c];exact w1.nd j
   dj:=fun j j' a h h'=>by
    rcases src h with ⟨c,m⟩ | ⟨c,m⟩
    ·rcases src h' with ⟨c',m'⟩ | ⟨c',m'⟩
     ·rw [c,c']
     ·exact absurd m (out c' m').1
    ·rcases src h' with ⟨c',m'⟩ | ⟨c',m'⟩
     ·exact absurd m' (out c m).1
     ·exact w1.dj j j' a m m'
   rd:=by
    rw [List.nodup_append]
    exact ⟨hLr.1,hrd.2.1,fun a ha b hb e=>hLr.2.2 a ha b (List.mem_append_right _ hb) e⟩
   rj:=fun j a m z=>by
    rcases src m with ⟨c,m⟩ | ⟨c,m⟩
    ·rcases List.mem_append.mp z with z | z
     ·exact wr.rj 0 a m (List.mem_append_left _ z)
     ·exact wr.rj 0 a m (List.mem_append_right _ (List.mem_append_right _ z))
    ·rcases List.mem_append.mp z with z | z
     ·exact (out c m).2 z
     ·exact w1.rj j a m (List.mem_append_right _ z)
   nf:=fun j a m z=>by
    rcases src m with ⟨c,m⟩ | ⟨c,m⟩
    ·exact wr.nf 0 a m z.1
    ·by_cases hj:j∈cz as
     ·exact z.2 j hj m
     ·exact wr.nr a (List.mem_append_right _ (List.mem_append_left _ (inR (fun q=>(List.mem_cons.mp q).elim c hj) m))) z.1
   nr:=fun a m z=>by
    rcases List.mem_append.mp m with m | m
    ·exact wr.nr a (List.mem_append_left _ m) z.1
    ·exact wr.nr a (List.mem_append_right _ (List.mem_append_right _ m)) z.1
   tr:=fun a m=>by
    rcases List.mem_append.mp m with m | m
    ·exact wr.tr a (List.mem_append_left _ m)
    ·exact wr.tr a (List.mem_append_right _ (List.mem_append_right _ m))
   ft:=fun a z=>wr.ft a z.1 }
 ·exact s1.trans ⟨fun a o e n=>keep a o e (n i),F13,fun j a m=>by
   rcases src m with ⟨c,m⟩ | ⟨c,m⟩
   ·exact (fresh0 a m).imp (fun z=>⟨i,z⟩) id
   ·exact .inl ⟨j,m⟩,fun a m=>(fresh a m).imp (fun z=>⟨i,z⟩) id⟩
theorem RN (F:FnOk X.prog X.w X.K X.mg X.base CX k f fd ps (bj X.K n false sf)) (hr:Room k X.A) (hg:Gl X x) (hm:X.mg x=some (.ref f)) (hk:PySem.W.keepIn X.K (.ref f)=true) (hb:Binds X.K fd ps []) (hx:uQ CX X E) (ha:SA X (e :: es) os)
  (hdb:(x==("__debug__" : Str))=false:=by decide) (he:starEach (e :: es) X.env=(false,eval e X.env) :: starEach es X.env:=by rfl) (hpl:(backTo pos (starEach es X.env)).any (·.1)=false:=by rfl) :
  SE X (.Call (.Name x p) (e :: es) [] pos) (aV n sf os):=
 (Hy F hr hg hm hk hb .nil hx ha hdb he hpl).wk fun σ H Q h=>Ss h
theorem Oa {i:Nat} (F:FnOk X.prog X.w X.K X.mg X.base CX k f fd ps (bj X.K n true sf)) (hr:Room k X.A) (hg:Gl X x) (hm:X.mg x=some (.ref f)) (hk:PySem.W.keepIn X.K (.ref f)=true) (hb:Binds X.K fd ps []) (hx:uQ CX X E) (ha:SA X (e :: es) (.nam i :: os))
  (hdb:(x==("__debug__" : Str))=false:=by decide) (he:starEach (e :: es) X.env=(false,eval e X.env) :: starEach es X.env:=by rfl) (hpl:(backTo pos (starEach es X.env)).any (·.1)=false:=by rfl) :
  SE X (.Call (.Name x p) (e :: es) [] pos) (cG n sf i os):=
 (Hy F hr hg hm hk hb .nil hx ha hdb he hpl).wk fun σ H Q h=>Ox h
end
end L2
namespace L2
open PySem PySem.Spec PyProof.Rows
section
variable {K:PySem.W.Frag} {F:Addr->Prop} {H:Hp} {σ : St} {ρ : En} {Ls:Nat->List Addr} {R:List Addr}
theorem Rps.off {vs:List V} {ds:List D} {L:List Addr} {a:Addr} {xs xs':List V} (r:Rps K F H vs ds L) (ha:H a=some (.lst xs)) (hf:¬ F a) (hL:a ∉ L):Rps K F (upd H a (.lst xs')) vs ds L:=by
 refine r.mono (fun _ h=>h) (fun b o e st=>?_) (fun b o f e=>?_) fun b hb o e=>?_
 ·rw [bJ (fun z=>by subst z;rw [ha] at e;cases e;exact st)];exact e
 ·rw [bJ (fun z=>by subst z;exact hf f)];exact e
 ·rw [bJ (fun z=>by subst z;exact hL hb)];exact e
theorem Rp.off {v:V} {d:D} {L:List Addr} {a:Addr} {xs xs':List V} (r:Rp K F H v d L) (ha:H a=some (.lst xs)) (hf:¬ F a) (hL:a ∉ L):Rp K F (upd H a (.lst xs')) v d L:=by
 refine r.mono (fun _ h=>h) (fun b o e st=>?_) (fun b o f e=>?_) fun b hb o e=>?_
 ·rw [bJ (fun z=>by subst z;rw [ha] at e;cases e;exact st)];exact e
 ·rw [bJ (fun z=>by subst z;exact hf f)];exact e
 ·rw [bJ (fun z=>by subst z;exact hL hb)];exact e
theorem WS.mut {i:Nat} {a:Addr} {v:V} {d d':D} {L' l R':List Addr} {xs xs':List V} (w:WS K F H σ ρ Ls R) (e : ρ[i]? = some (some d)) (hv : σ[i]? = some (some v)) (ha:H a=some (.lst xs)) (haL:a∈Ls i)
  (r':Rp K F (upd H a (.lst xs')) v d' L') (hp:(L'++R'++l).Perm (Ls i++R)):WS K F (upd H a (.lst xs')) σ (ρ.set i (some d')) (kY Ls i L') R':=by
 have hi:i < ρ.length:=(List.getElem?_eq_some_iff.mp e).1
 have ndI:(Ls i++R).Nodup:=List.nodup_append.mpr ⟨w.nd i,w.rd,fun x hx y hy z=>by subst z;exact w.rj i x hx hy⟩
 have ndA:(L'++R'++l).Nodup:=hp.nodup_iff.mpr ndI
 have ndB:=(List.nodup_append.mp ndA).1
 have mem:∀ b,b∈L'++R'->b∈Ls i∨b∈R:=fun b hb=>List.mem_append.mp (hp.mem_iff.mp (List.mem_append_left _ hb))
 have naF:¬ F a:=w.nf i a haL
 have src:∀ {j:Nat} {b:Addr},b∈kY Ls i L' j->(j=i∧b∈L')∨(j≠i∧b∈Ls j):=fun {j b} m=>by
  by_cases c:j=i
  ·rw [c,aY] at m;exact .inl ⟨c,m⟩
  ·rw [bB c] at m;exact .inr ⟨c,m⟩
 have apart:∀ {j:Nat} {b:Addr},j≠i->b∈Ls j->b ∉ L'++R':=fun {j b} c m z=>(mem b z).elim (fun q=>c (w.dj j i b m q)) fun q=>w.rj j b m q
 exact {
  len:=by rw [List.length_set];exact w.len
  sl:=fun j d2 e2=>by
   by_cases c:j=i
   ·subst c
    rw [List.getElem?_set_self hi] at e2
    cases e2
    exact ⟨v,hv,by rw [aY];exact r'⟩
   ·rw [List.getElem?_set_ne (Ne.symm c)] at e2
    obtain ⟨u,h1,h2⟩:=w.sl j d2 e2
    exact ⟨u,h1,by rw [bB c];exact h2.off ha naF fun z=>c (w.dj j i a z haL)⟩
  em:=fun j h=>by
   by_cases c:j=i
   ·subst c;exact absurd (List.getElem?_set_self hi) (h d')
   ·rw [bB c];exact w.em j fun d2 z=>h d2 (by rw [List.getElem?_set_ne (Ne.symm c)];exact z)
  nd:=fun j=>by
   by_cases c:j=i
   ·rw [c,aY];exact (List.nodup_append.mp ndB).1
   ·rw [bB c];exact w.nd j
  dj:=fun j j' b h h'=>by
   rcases src h with ⟨c,m⟩ | ⟨c,m⟩
   ·rcases src h' with ⟨c',m'⟩ | ⟨c',m'⟩
    ·rw [c,c']
    ·exact absurd (List.mem_append_left _ m) (apart c' m')
   ·rcases src h' with ⟨c',m'⟩ | ⟨c',m'⟩
    ·exact absurd (List.mem_append_left _ m') (apart c m)
    ·exact w.dj j j' b m m'
  rd:=(List.nodup_append.mp ndB).2.1
  rj:=fun j b m z=>by
   rcases src m with ⟨c,m⟩ | ⟨c,m⟩
   ·exact (List.nodup_append.mp ndB).2.2 b m b z rfl
   ·exact apart c m (List.mem_append_right _ z)
  nf:=fun j b m z=>by
   rcases src m with ⟨c,m⟩ | ⟨c,m⟩
   ·exact (mem b (List.mem_append_left _ m)).elim (fun q=>w.nf i b q z) fun q=>w.nr b q z
   ·exact w.nf j b m z
  nr:=fun b m z=>(mem b (List.mem_append_right _ m)).elim (fun q=>w.nf i b q z) fun q=>w.nr b q z
  tr:=fun b m=>by
   by_cases c:b=a
   ·subst c;exact ⟨xs',cW⟩
   ·rw [bJ c]
    exact (mem b (List.mem_append_right _ m)).elim (fun q=>w.own q) fun q=>w.tr b q
  ft:=fun b z=>by
   by_cases c:b=a
   ·subst c;rw [cW];simp
   ·rw [bJ c];exact w.ft b z }
theorem Step.mut {F1:Addr->Prop} {H1:Hp} {Ls1:Nat->List Addr} {Ld L' Lr:List Addr} {i:Nat} {a:Addr} {xs':List V} (s:Step F H Ls F1 H1 Ls1 Ld) (haL:a∈Ls1 i) (hs:∀ b∈L'++Lr,b∈Ls1 i∨b∈Ld) :
  Step F H Ls F1 (upd H1 a (.lst xs')) (kY Ls1 i L') Lr:=by
 have back:∀ b∈L'++Lr,(∃ j,b∈Ls j)∨H b=none:=fun b m=>(hs b m).elim (s.src i b) (s.srcD b)
 refine ⟨fun b o e n=>?_,s.mono,fun j b m=>?_,fun b m=>back b (List.mem_append_right _ m)⟩
 ·rw [bJ (fun z=>by
   subst z
   rcases s.src i b haL with ⟨j,q⟩ | q
   ·exact n j q
   ·rw [e] at q;cases q)]
  exact s.keep b o e n
 ·by_cases c:j=i
  ·rw [c,aY] at m;exact back b (List.mem_append_left _ m)
  ·rw [bB c] at m;exact s.src j b m
end
abbrev xR:=List D->List D->Option (List D×D)
def jB (r:V->List V->Hp->VK->Prop) (g:xR):Prop:=
 ∀ (K:PySem.W.Frag) (F:Addr->Prop) (H:Hp) (a:Addr) (vs us:List V) (ds es ds':List D) (rd:D) (M La:List Addr) (Q:VK),H a=some (.lst vs)->Rps K F H vs ds M->Rps K F H us es La->g ds es=some (ds',rd) ->
  (∀ vs' M' vr Lr l,Rps K F H vs' ds' M'->Rp K F H vr rd Lr->(M'++Lr++l).Perm (M++La)->Q vr (upd H a (.lst vs')))->r (.ref a) us H Q
def lO (g:xR) (i:Nat) (os:List Opd):bU:=fun ρ Q=>(∃ o ds,ρ[i]? = some (some (.lst o ds)))∧eQ os ρ fun as ρ'=>∃ ds es ds' rd,ρ'[i]? = some (some (.lst true ds))∧bG ρ' as=some es∧cQ ρ' as=true∧g ds es=some (ds',rd)∧Q rd (ρ'.set i (some (.lst true ds')))
section
variable {X:Cx} {K:PySem.W.Frag} {σ : St} {H:Hp} {os:List Opd} {i:Nat} {g:xR} {r:V->List V->Hp->VK->Prop}
theorem Oz {Q:VK} (hg:jB r g) {x:V} (hx : σ[i]? = some (some x)) (h:kJ K (lO g i os) σ H Q):tK K os σ H fun xs H2=>r x xs H2 Q:=by
 obtain ⟨F,ρ,Ls,R,Qd,w,⟨_,q⟩,k⟩:=h
 refine ⟨F,ρ,Ls,R,_,w,q,fun us H1 as ρ1 F1 Ls1 La r1 w1 s1 ⟨ds,es,ds',rd,e0,e1,e2,e3,q1⟩=>?_⟩
 obtain ⟨v,hv,rv⟩:=w1.sl i _ e0
 rw [hx] at hv
 cases hv
 have ra:=r1.all w1 e1 e2
 generalize hLi:Ls1 i=Li at rv
 cases rv with
 | @own a vs _ M ha rs=>
  refine hg K F1 H1 a vs us ds es ds' rd M La Q ha rs ra e3 fun vs' M' vr Lr l rs' rr hp=>?_
  have haL:a∈Ls1 i:=by rw [hLi];exact List.mem_cons_self
  have naF:¬ F1 a:=w1.nf i a haL
  have nodup:(a :: M++(La++R)).Nodup:=by rw [← hLi];exact List.nodup_append.mpr ⟨w1.nd i,w1.rd,fun x hx y hy z=>by subst z;exact w1.rj i x hx hy⟩
  have na:a ∉ M'++Lr:=fun z=>by
   have:a∈M++La:=hp.mem_iff.mp (List.mem_append_left _ z)
   have h2:=(List.nodup_cons.mp (show (a :: (M++(La++R))).Nodup from nodup)).1
   rw [← List.append_assoc] at h2
   exact h2 (List.mem_append_left _ this)
  have hp2:(a :: M'++(Lr++R)++l).Perm (Ls1 i++(La++R)):=by
   rw [hLi]
   refine List.Perm.cons a ?_
   have:(M'++(Lr++R)++l).Perm (M'++Lr++l++R):=by
    rw [List.append_assoc,List.append_assoc,List.append_assoc,List.append_assoc]
    exact (List.Perm.refl M').append ((List.Perm.refl Lr).append List.perm_append_comm)
   refine this.trans ?_
   show List.Perm _ (M++(La++R))
   rw [← List.append_assoc M La R]
   exact hp.append_right R
  refine k vr _ rd _ F1 (kY Ls1 i (a :: M')) Lr (rr.off ha naF fun z=>na (List.mem_append_right _ z)) (w1.mut e0 hx ha haL (.own cW (rs'.off ha naF fun z=>na (List.mem_append_left _ z))) hp2) (s1.mut haL fun b hb=>?_) q1
  rw [hLi]
  rcases List.mem_append.mp hb with hb | hb
  ·rcases List.mem_cons.mp hb with rfl | hb
   ·exact .inl List.mem_cons_self
   ·exact (List.mem_append.mp (hp.mem_iff.mp (List.mem_append_left _ (List.mem_append_left _ hb)))).imp (List.mem_cons_of_mem _) id
  ·exact (List.mem_append.mp (hp.mem_iff.mp (List.mem_append_left _ (List.mem_append_right _ hb)))).imp (List.mem_cons_of_mem _) id
theorem Mw {Q:VK} (h:kJ K (lO g i os) σ H Q):∃ x,σ[i]? = some (some x)∧tyV K "list" x H:=by
 obtain ⟨F,ρ,Ls,R,Qd,w,⟨⟨o,ds,e⟩,q⟩,k⟩:=h
 obtain ⟨v,hv,rv⟩:=w.sl i _ e
 obtain ⟨a,vs,M,rfl,ha,_⟩:=rv.lst_at
 exact ⟨_,hv,.inl ⟨rfl,_,.of ha⟩⟩
theorem oZ {x name:Str} {id:String} {e:Expr} {es:List Expr} {p apos cpos:Pos} (slot:Slot "list" name id) (hty:typeOf (.builtin id)=pure (.type "method_descriptor")) (hm:MtM X id r) (hg:jB r g)
  (hN:X.N[i]? = some x) (hv:Vis X.env.scope x) (ha:SA X (e :: es) os) (hd:(x==("__debug__" : Str))=false:=by decide) (hcd:(x==("__classdict__" : Str))=false:=by decide)
  (hbase:attributeBase (.Name x p) name X.env (eval (.Name x p) X.env)=eval (.Name x p) X.env:=by rfl)
  (hfew:((backTo cpos (starEach (e :: es) X.env)).all (fun x=>!x.1)&&(backToKw cpos (keywordEach [] X.env)).all (fun x=>x.1.isSome)
   && decide ((e :: es).length+([]:List Keyword).length+(if ([]:List Keyword).isEmpty then 0 else 1)<30))=true:=by rfl)
  (hline:(apos.endLine==cpos.line)=true:=by rfl) (hs:starEach (e :: es) X.env=(false,eval e X.env) :: starEach es X.env:=by rfl) (hplain:(backTo cpos (starEach es X.env)).any (·.1)=false:=by rfl) :
  SE X (.Call (.Attribute (.Name x p) name apos) (e :: es) [] cpos) (lO g i os):=
 (XN PySem.F.plainAttrs_list slot hty hm (qt hN hv hd hcd) ha hbase hfew hline hs hplain).wk fun σ H Q h=>by
  obtain ⟨v,hv,ty⟩:=Mw h
  exact ⟨v,hv,ty,Oz hg hv h⟩
theorem RP {x name:Str} {id:String} {p apos cpos:Pos} (slot:Slot "list" name id) (hty:typeOf (.builtin id)=pure (.type "method_descriptor")) (hm:MtM X id r) (hg:jB r g)
  (hN:X.N[i]? = some x) (hv:Vis X.env.scope x) (hd:(x==("__debug__" : Str))=false:=by decide) (hcd:(x==("__classdict__" : Str))=false:=by decide)
  (hbase:attributeBase (.Name x p) name X.env (eval (.Name x p) X.env)=eval (.Name x p) X.env:=by rfl) (hline:(apos.endLine==cpos.line)=true:=by rfl) :
  SE X (.Call (.Attribute (.Name x p) name apos) [] [] cpos) (lO g i []):=
 (VB PySem.F.plainAttrs_list slot hty hm (qt hN hv hd hcd) hbase hline).wk fun σ H Q h=>by
  obtain ⟨v,hv,ty⟩:=Mw h
  obtain ⟨F,ρ,Ls,R,Qd,w,q,k⟩:=Oz (r:=r) hg hv h
  exact ⟨v,hv,ty,k [] H [] ρ F Ls [] .nil w Step.refl q⟩
end
theorem Rps.split {K:PySem.W.Frag} {F:Addr->Prop} {H:Hp}:∀ {vs:List V} {ds:List D} {L:List Addr} {k:Nat} {d:D},Rps K F H vs ds L->ds[k]? = some d -> ∃ v L1 Lk L2,L=L1++(Lk++L2)∧vs[k]? = some v∧Rp K F H v d Lk ∧
  Rps K F H (vs.eraseIdx k) (ds.eraseIdx k) (L1++L2) ∧ ∀ v' d' Lk',Rp K F H v' d' Lk'->Rps K F H (vs.set k v') (ds.set k d') (L1++(Lk'++L2))
 | _,_,_,k,d,.nil,e=>by simp at e
 | _,_,_,0,d,.cons (L:=L) (M:=M) r rs,e=>by
  simp at e
  subst e
  exact ⟨_,[],L,M,rfl,rfl,r,rs,fun v' d' Lk' r'=>by rw [List.nil_append];exact .cons r' rs⟩
 | _,_,_,k+1,d,.cons (L:=L) (M:=M) r rs,e=>by
  obtain ⟨v,L1,Lk,L2,rfl,h1,h2,h3,h4⟩:=Rps.split (k:=k) rs (by simpa using e)
  refine ⟨v,L++L1,Lk,L2,by rw [List.append_assoc],by simpa using h1,h2,?_,fun v' d' Lk' r'=>?_⟩
  ·rw [List.append_assoc];exact .cons r h3
  ·rw [List.append_assoc];exact .cons r (h4 v' d' Lk' r')
theorem Rps.cut {K:PySem.W.Frag} {F:Addr->Prop} {H:Hp}:∀ {vs:List V} {ds:List D} {L:List Addr} (k:Nat),Rps K F H vs ds L -> ∃ L1 L2,L=L1++L2∧Rps K F H (vs.take k) (ds.take k) L1∧Rps K F H (vs.drop k) (ds.drop k) L2
 | _,_,_,0,r=>⟨[],_,rfl,.nil,r⟩
 | _,_,_,k+1,.nil=>⟨[],[],rfl,.nil,.nil⟩
 | _,_,_,k+1,.cons (L:=L) r rs=>by
  obtain ⟨L1,L2,rfl,h1,h2⟩:=Rps.cut k rs
  exact ⟨L++L1,L2,by rw [List.append_assoc],.cons r h1,h2⟩
theorem Rps.rev {K:PySem.W.Frag} {F:Addr->Prop} {H:Hp}:∀ {vs:List V} {ds:List D} {L:List Addr},Rps K F H vs ds L -> ∃ L',L'.Perm L∧Rps K F H vs.reverse ds.reverse L'
 | _,_,_,.nil=>⟨[],.refl _,.nil⟩
 | _,_,_,.cons (L:=L) (M:=M) r rs=>by
  obtain ⟨M',p,h⟩:=Rps.rev rs
  rw [List.reverse_cons,List.reverse_cons]
  refine ⟨M'++(L++[]),?_,h.append (.cons r .nil)⟩
  rw [List.append_nil]
  exact List.perm_append_comm.trans ((List.Perm.refl L).append p)
theorem Rps.one {K:PySem.W.Frag} {F:Addr->Prop} {H:Hp} {us:List V} {d:D} {L:List Addr} (r:Rps K F H us [d] L):∃ u,us=[u]∧Rp K F H u d L:=by
 cases r with
 | cons r rs=>cases rs with
  | nil=>exact ⟨_,rfl,by rw [List.append_nil];exact r⟩
theorem Rps.two {K:PySem.W.Frag} {F:Addr->Prop} {H:Hp} {us:List V} {d e:D} {L:List Addr} (r:Rps K F H us [d,e] L):∃ u v L1 L2,us=[u,v]∧L=L1++L2∧Rp K F H u d L1∧Rp K F H v e L2:=by
 cases r with
 | cons r rs=>
  obtain ⟨v,rfl,r2⟩:=rs.one
  exact ⟨_,_,_,_,rfl,rfl,r,r2⟩
def gh:xR:=fun ds es=>match es with | [e]=>if ds.length<sizeLine then some (ds++[e],.non) else none | _=>none
theorem pA:jB HD gh:=by
 intro K F H a vs us ds es ds' rd M La Q ha rs ra e q
 unfold gh at e
 split at e
 ·split at e
  ·rename_i hz
   cases e
   obtain ⟨u,rfl,ru⟩:=ra.one
   exact ⟨a,vs,u,rfl,rfl,ha,by rw [rs.length];exact hz,q _ _ _ [] [] (rs.append (.cons ru .nil)) .non (by simp)⟩
  ·cases e
 ·cases e
def vK (n:Nat) (x:Int):Nat:=if x<0 then (x+n).toNat else min x.toNat n
def lB:xR:=fun ds es=>match es with
 | [.int k,e]=>if (decide (-(2 ^ 63:Int)<=k)&&decide (k<2 ^ 63)&&decide (ds.length<sizeLine))=true then some (ds.take (vK ds.length k)++e :: ds.drop (vK ds.length k),.non) else none
 | _=>none
def HF:V->List V->Hp->VK->Prop:=fun x vs H Q=>∃ l xs k y,x = .ref l∧vs=[.int k,y]∧H l=some (.lst xs)∧(-(2 ^ 63:Int)<=k∧k<2 ^ 63)∧xs.length<sizeLine∧Q .non (upd H l (.lst (xs.take (vK xs.length k)++y :: xs.drop (vK xs.length k))))
theorem sY {X:Cx}:MtM X "list.insert" HF:=by
 intro pins s σ H x vs v us Q I rx rv h
 obtain ⟨l,xs,k,y,rfl,rfl,hH,hk,hz,q⟩:=h
 cases rx
 obtain ⟨u1,u,rfl,r1,ru⟩:=rv.two
 obtain ⟨t,rfl⟩:=r1
 obtain ⟨z,its,n,r,hl,e⟩:=I.lstM hH
 have hf:Builtin.List.listFitsIndex k=true:=by unfold Builtin.List.listFitsIndex;simp;exact hk
 refine call_meets PySem.F.slot_list_insert ⟨_,e,rfl⟩ PySem.F.entry_list_insert (PySem.F.args_list_insert_3 _ _ _) (PySem.AutoSeq1.list_insert_list_int_val_1 l its.toArray n k t u (by simp [hf]) (by rw [List.size_toArray];omega)) ⟨e,?_⟩
 refine ⟨.non,_,I.lset (its':=its.take (vK its.length k)++u :: its.drop (vK its.length k)) hH e ?_ (by rw [← hl];exact (r.take _).append (.cons ru (r.drop _))) ?_,rfl,q⟩
 ·show (its.toArray.extract 0 (if k<0 then (k+(its.toArray.size:Int)).toNat else min k.toNat its.toArray.size)).push u++its.toArray.extract (if k<0 then (k+(its.toArray.size:Int)).toNat else min k.toNat its.toArray.size)=_
  rw [List.size_toArray]
  show (its.toArray.extract 0 (vK its.length k)).push u++its.toArray.extract (vK its.length k)=_
  simp
  exact List.take_of_length_le (by rw [List.length_drop];omega)
 ·rw [List.length_append,List.length_cons,List.length_take,List.length_drop]
  omega
theorem sJ:jB HF lB:=by
 intro K F H a vs us ds es ds' rd M La Q ha rs ra e q
 unfold lB at e
 split at e
 ·split at e
  ·rename_i hz
   cases e
   rw [Bool.and_eq_true,Bool.and_eq_true,decide_eq_true_eq,decide_eq_true_eq,decide_eq_true_eq] at hz
   obtain ⟨u,v,L1,L2,rfl,rfl,r1,r2⟩:=ra.two
   cases r1
   obtain ⟨M1,M2,rfl,h1,h2⟩:=rs.cut (vK ds.length _)
   refine ⟨a,vs,_,v,rfl,rfl,ha,hz.1,by rw [rs.length];exact hz.2,?_⟩
   rw [rs.length]
   refine q _ _ _ [] [] (h1.append (.cons r2 h2)) .non ?_
   rw [List.append_nil,List.append_nil,List.nil_append,List.append_assoc]
   exact (List.Perm.refl M1).append List.perm_append_comm
  ·cases e
 ·cases e
def vY:xR:=fun ds es=>match es with
 | [.int k]=>if (decide (-(2 ^ 63:Int)<=k)&&decide (k<2 ^ 63))=true then (ixN ds.length k).bind fun j=>(ds[j]?).map fun d=>(ds.eraseIdx j,d) else none
 | _=>none
theorem Kg:jB NP vY:=by
 intro K F H a vs us ds es ds' rd M La Q ha rs ra e q
 unfold vY at e
 split at e
 ·split at e
  ·rename_i hz
   rw [Bool.and_eq_true,decide_eq_true_eq,decide_eq_true_eq] at hz
   obtain ⟨j,ej,e1⟩:=Option.bind_eq_some_iff.mp e
   obtain ⟨d,e2,e3⟩:=Option.map_eq_some_iff.mp e1
   cases e3
   obtain ⟨v,L1,Lk,L2,rfl,h1,h2,h3,_⟩:=rs.split e2
   obtain ⟨u,rfl,ru⟩:=ra.one
   cases ru
   refine ⟨a,vs,_,j,v,rfl,rfl,ha,hz.1,hz.2,by rw [rs.length];exact (uC ej).1,h1,q _ _ _ Lk [] h3 h2 ?_⟩
   rw [List.append_nil,List.append_nil,List.append_assoc]
   exact (List.Perm.refl L1).append List.perm_append_comm
  ·cases e
 ·cases e
def oO:xR:=fun ds es=>match es with | []=>some (ds.reverse,.non) | _=>none
theorem Ef:jB Dc oO:=by
 intro K F H a vs us ds es ds' rd M La Q ha rs ra e q
 unfold oO at e
 split at e
 ·cases e
  cases ra
  obtain ⟨L',p,h⟩:=rs.rev
  exact ⟨a,vs,rfl,rfl,ha,q _ _ _ [] [] h .non (by simpa using p)⟩
 ·cases e
def Yk:V->List V->Hp->VK->Prop:=fun x us H Q=>∃ i v,us=[i,v]∧HJ x i v H fun H'=>Q .non H'
def Vq:xR:=fun ds es=>match es with
 | [.int k,e]=>(ixN ds.length k).map fun j=>(ds.set j e,.non)
 | _=>none
theorem Uo:jB Yk Vq:=by
 intro K F H a vs us ds es ds' rd M La Q ha rs ra e q
 unfold Vq at e
 split at e
 ·obtain ⟨j,ej,e1⟩:=Option.map_eq_some_iff.mp e
  cases e1
  obtain ⟨u,v,L1,L2,rfl,rfl,r1,r2⟩:=ra.two
  cases r1
  obtain ⟨_,hj,_⟩:=uC ej
  obtain ⟨w,N1,Nk,N2,rfl,h1,h2,_,h4⟩:=rs.split (List.getElem?_eq_getElem hj)
  refine ⟨_,v,rfl,a,vs,_,j,rfl,rfl,ha,by rw [rs.length];exact ej,q _ _ _ [] Nk (h4 v _ L2 r2) .non ?_⟩
  rw [List.append_nil,List.nil_append,List.append_assoc,List.append_assoc,List.append_assoc]
  refine (List.Perm.refl N1).append ?_
  rw [← List.append_assoc]
  refine List.perm_append_comm.trans ?_
  rw [List.append_assoc]
  exact (List.Perm.refl Nk).append List.perm_append_comm
 ·cases e
end L2
namespace L2
open PySem PySem.Spec PyProof.Rows
section
variable {X:Cx} {K:PySem.W.Frag} {F F1:Addr->Prop} {H H1:Hp} {σ : St} {ρ ρ1:En} {Ls Ls1:Nat->List Addr} {R La:List Addr} {i:Nat} {g:xR} {r:V->List V->Hp->VK->Prop}
theorem Mv {Q:VK} {x:V} {us:List V} {ds es ds':List D} {rd:D} (hg:jB r g) (hx : σ[i]? = some (some x)) (e0 : ρ1[i]? = some (some (.lst true ds))) (ra:Rps K F1 H1 us es La) (e3:g ds es=some (ds',rd))
  (w1:WS K F1 H1 σ ρ1 Ls1 (La++R)) (s1:Step F H Ls F1 H1 Ls1 La)
  (k:∀ vr H' Ls' Lr,Rp K F1 H' vr rd Lr->WS K F1 H' σ (ρ1.set i (some (.lst true ds'))) Ls' (Lr++R)->Step F H Ls F1 H' Ls' Lr->Q vr H'):r x us H1 Q:=by
 obtain ⟨v,hv,rv⟩:=w1.sl i _ e0
 rw [hx] at hv
 cases hv
 generalize hLi:Ls1 i=Li at rv
 cases rv with
 | @own a vs _ M ha rs=>
  refine hg K F1 H1 a vs us ds es ds' rd M La Q ha rs ra e3 fun vs' M' vr Lr l rs' rr hp=>?_
  have haL:a∈Ls1 i:=by rw [hLi];exact List.mem_cons_self
  have naF:¬ F1 a:=w1.nf i a haL
  have nodup:(a :: M++(La++R)).Nodup:=by rw [← hLi];exact List.nodup_append.mpr ⟨w1.nd i,w1.rd,fun x hx y hy z=>by subst z;exact w1.rj i x hx hy⟩
  have na:a ∉ M'++Lr:=fun z=>by
   have:a∈M++La:=hp.mem_iff.mp (List.mem_append_left _ z)
   have h2:=(List.nodup_cons.mp (show (a :: (M++(La++R))).Nodup from nodup)).1
   rw [← List.append_assoc] at h2
   exact h2 (List.mem_append_left _ this)
  have hp2:(a :: M'++(Lr++R)++l).Perm (Ls1 i++(La++R)):=by
   rw [hLi]
   refine List.Perm.cons a ?_
   have:(M'++(Lr++R)++l).Perm (M'++Lr++l++R):=by
    rw [List.append_assoc,List.append_assoc,List.append_assoc,List.append_assoc]
    exact (List.Perm.refl M').append ((List.Perm.refl Lr).append List.perm_append_comm)
   refine this.trans ?_
   show List.Perm _ (M++(La++R))
   rw [← List.append_assoc M La R]
   exact hp.append_right R
  refine k vr _ (kY Ls1 i (a :: M')) Lr (rr.off ha naF fun z=>na (List.mem_append_right _ z)) (w1.mut e0 hx ha haL (.own cW (rs'.off ha naF fun z=>na (List.mem_append_left _ z))) hp2) (s1.mut haL fun b hb=>?_)
  rw [hLi]
  rcases List.mem_append.mp hb with hb | hb
  ·rcases List.mem_cons.mp hb with rfl | hb
   ·exact .inl List.mem_cons_self
   ·exact (List.mem_append.mp (hp.mem_iff.mp (List.mem_append_left _ (List.mem_append_left _ hb)))).imp (List.mem_cons_of_mem _) id
  ·exact (List.mem_append.mp (hp.mem_iff.mp (List.mem_append_left _ (List.mem_append_right _ hb)))).imp (List.mem_cons_of_mem _) id
end
def jV (i:Nat) (se:bU) (oi:Opd):cD:=fun ρ E=>(∃ d,ρ[i]? = some (some d))∧eQ [.val se,oi] ρ fun as ρ'=>∃ d a ds k j,as=[.val d,a]∧a.get ρ'=some (.int k) ∧ ρ'[i]? = some (some (.lst true ds))∧ixN ds.length k=some j ∧
 E.nx (ρ'.set i (some (.lst true (ds.set j d))))
section
variable {X:Cx} {kp:Nat->Bool} {pos:Pos}
theorem Hi {K:PySem.W.Frag} {F:Addr->Prop} {H:Hp} {σ : St} {ρ : En} {Ls:Nat->List Addr} {R La:List Addr} (w:WS K F H σ ρ Ls R) {v:V} {a:AD} {k:Int} (r:RpA K F H σ [v] [a] La) (e:a.get ρ = some (.int k)):v = .int k:=by
 obtain ⟨x,L,e1,r1⟩:=(r.at w (ds:=[.int k]) (by rw [bG,e];rfl)).one
 cases e1
 exact r1.isInt
theorem mK {i:Nat} {x:Str} {idx e:Expr} {se:bU} {oi:Opd} {p pos':Pos} (hN:X.N[i]? = some x) (hv:Vis X.env.scope x) (he:SE X e se) (hi:SO X idx oi) (hd:(x==("__debug__" : Str))=false:=by decide) (hcd:(x==("__classdict__" : Str))=false:=by decide)
  (ha:∀ v,assign (.Subscript (.Name x p) idx pos') X.env v=(do
   let ov ← holding [v] (eval (.Name x p) X.env)
   let iv ← holding [v,ov] (eval idx X.env)
   standAt pos'
   holding [v,ov,iv] (setItem ov iv v)
   release [v,ov,iv] []):=by intro _;rfl)
  (hs:swapsWithSole [.Subscript (.Name x p) idx pos'] e pos.line X.env=pure false:=by rfl) (hw:swappedStores [.Subscript (.Name x p) idx pos'] e X.env=pure none:=by rfl)
  (h1:(assignEach [.Subscript (.Name x p) idx pos'] X.env).map (·.2)=[assign (.Subscript (.Name x p) idx pos') X.env]:=by rfl):SS X kp (.Assign [.Subscript (.Name x p) idx pos'] e pos) (jV i se oi):=
 (Nt he (VM (qt hN hv hd hcd) hi set_list ha) hs hw h1).wk fun D σ H ⟨F,ρ,Ls,R,E,w,⟨⟨d0,e0⟩,q⟩,pe⟩=>by
  obtain ⟨v0,hv0,_⟩:=w.sl i d0 e0
  have t:tK X.K [.val se,oi] σ H fun vs H2=>∃ v k,vs=[v,k]∧HJ v0 k v H2 fun H3=>D.nx σ H3:=by
   refine ⟨F,ρ,Ls,R,_,w,q,fun vs H1 as ρ1 F1 Ls1 La r1 w1 s1 ⟨d,a,ds,k,j,ea,ek,ed,ej,q1⟩=>?_⟩
   subst ea
   cases r1 with
   | @val v vs _ _ L M rd rk=>
    obtain ⟨kv,rfl⟩:∃ kv,vs=[kv]:=by
     cases rk with
     | val _ z=>cases z;exact ⟨_,rfl⟩
     | nam _ z=>cases z;exact ⟨_,rfl⟩
    have hk:=Hi w1 rk ek
    subst hk
    have hM:M=[]∨True:=.inr trivial
    refine ⟨v,.int k,rfl,?_⟩
    have w2:WS X.K F1 H1 σ ρ1 Ls1 (L++R):=w1.less ((List.sublist_append_left L M).append (List.Sublist.refl R))
    have s2:Step F H Ls F1 H1 Ls1 L:=s1.more fun a ha=>s1.srcD a (List.mem_append_left _ ha)
    obtain ⟨i',v',eu,rr⟩:=Mv (Q:=fun _ H'=>D.nx σ H') (us:=[.int k,v]) (es:=[.int k,d]) (ds':=ds.set j d) (rd:=.non) Uo hv0 ed (.cons (L:=[]) (.int k) (by have z:=Rps.cons rd (.nil (K:=X.K) (F:=F1) (H:=H1));rw [List.append_nil] at z;exact z)) (by simp [Vq,ej]) w2 s2 fun vr H' Ls' Lr rr w' s'=>by
     exact pe.nx σ H' _ F1 Ls' (w'.less (List.sublist_append_right _ _)) (s'.more fun a h=>absurd h (by simp)) (fun _ _=>rfl) q1
    cases eu
    exact rr
  have t1:=dM t
  refine uN t1 fun v H1 t2=>⟨v0,hv0,?_⟩
  refine ie (fun k H2 t3=>?_) (dM t2)
  obtain ⟨F,ρ,Ls,R,Qd,w,q,kk⟩:=t3
  obtain ⟨v',k',e',q'⟩:=kk [] H2 [] ρ F Ls [] .nil w Step.refl q
  cases e'
  exact q'
end
def nU (i:Nat):cD:=fun ρ E=>∃ d,ρ[i]? = some (some d)∧E.rt d (ρ.set i none)
section
variable {X:Cx} {kp:Nat->Bool} {pos:Pos} {K:PySem.W.Frag} {F:Addr->Prop} {H:Hp} {σ : St} {ρ : En} {Ls:Nat->List Addr} {R:List Addr}
theorem WS.take {i:Nat} {d:D} (w:WS K F H σ ρ Ls R) (e : ρ[i]? = some (some d)):WS K F H σ (ρ.set i none) (kY Ls i []) (Ls i++R):=by
 have hi:i < ρ.length:=(List.getElem?_eq_some_iff.mp e).1
 have src:∀ {j:Nat} {b:Addr},b∈kY Ls i [] j->j≠i∧b∈Ls j:=fun {j b} m=>by
  by_cases c:j=i
  ·rw [c,aY] at m;simp at m
  ·rw [bB c] at m;exact ⟨c,m⟩
 exact {
  len:=by rw [List.length_set];exact w.len
  sl:=fun j d' e'=>by
   by_cases c:j=i
   ·subst c;rw [List.getElem?_set_self hi] at e';cases e'
   ·rw [List.getElem?_set_ne (Ne.symm c)] at e'
    obtain ⟨u,h1,h2⟩:=w.sl j d' e'
    exact ⟨u,h1,by rw [bB c];exact h2⟩
  em:=fun j h=>by
   by_cases c:j=i
   ·rw [c,aY]
   ·rw [bB c];exact w.em j fun d' z=>h d' (by rw [List.getElem?_set_ne (Ne.symm c)];exact z)
  nd:=fun j=>by
   by_cases c:j=i
   ·rw [c,aY];exact List.nodup_nil
   ·rw [bB c];exact w.nd j
  dj:=fun j j' a h h'=>w.dj j j' a (src h).2 (src h').2
  rd:=List.nodup_append.mpr ⟨w.nd i,w.rd,fun x hx y hy z=>by subst z;exact w.rj i x hx hy⟩
  rj:=fun j a h z=>by
   obtain ⟨c,m⟩:=src h
   rcases List.mem_append.mp z with z | z
   ·exact c (w.dj j i a m z)
   ·exact w.rj j a m z
  nf:=fun j a h=>w.nf j a (src h).2
  nr:=fun a z=>by
   rcases List.mem_append.mp z with z | z
   ·exact w.nf i a z
   ·exact w.nr a z
  tr:=fun a z=>by
   rcases List.mem_append.mp z with z | z
   ·exact w.own z
   ·exact w.tr a z
  ft:=w.ft }
theorem pM {i:Nat} {x:Str} {p:Pos} (hf0:Ii kp i) (hN:X.N[i]? = some x) (hv:Vis X.env.scope x) (hd:(x==("__debug__" : Str))=false:=by decide) (hcd:(x==("__classdict__" : Str))=false:=by decide):SS X kp (.Return (some (.Name x p)) pos) (nU i):=
 (Nv (qt hN hv hd hcd)).wk fun D σ H ⟨F,ρ,Ls,R,E,w,⟨d,e,q⟩,pe⟩=>by
  obtain ⟨v,hv,r⟩:=w.sl i d e
  refine ⟨v,hv,pe.rt v σ H d _ F _ (Ls i) r (w.take e) ⟨fun _ _ e _=>e,fun _ h=>h,fun j a m=>?_,fun a m=>.inl ⟨i,m⟩⟩ (fun _ _=>rfl) q⟩
  by_cases c:j=i
  ·rw [c,aY] at m;simp at m
  ·rw [bB c] at m;exact .inl ⟨j,m⟩
end
def Jw (i j:Nat) (os:List Opd):cD:=fun ρ E=>eQ os ρ fun as ρ'=>∃ d e,bG ρ' as=some [d,e]∧cQ ρ' as=true∧E.nx ((ρ'.set i (some d)).set j (some e))
theorem Oj {X:Cx} {kp:Nat->Bool} {pos:Pos} {i j:Nat} {x y:Str} {a b:Expr} {os:List Opd} {px py pt:Pos} {kt k2 pt2} (hf0:Ii kp i) (hf1:Ii kp j) (hc:X.calm=true) (hN:X.N.Nodup) (hi:X.N[i]? = some x) (hj:X.N[j]? = some y) (hij:i≠j)
  (hx:X.env.scope.names.lookup x=some .local) (hy:X.env.scope.names.lookup y=some .local) (ha:SA X [a,b] os)
  (hw:swappedStores [.Tuple [.Name x px,.Name y py] kt pt] (.Tuple [a,b] k2 pt2) X.env=pure (some [x,y]))
  (hs:swapsWithSole [.Tuple [.Name x px,.Name y py] kt pt] (.Tuple [a,b] k2 pt2) pos.line X.env=pure false:=by rfl) :
  SS X kp (.Assign [.Tuple [.Name x px,.Name y py] kt pt] (.Tuple [a,b] k2 pt2) pos) (Jw i j os):=
 (VV hc hN hi hj hij hx hy ha hw hs).wk fun D σ H ⟨F,ρ,Ls,R,E,w,q,pe⟩=>⟨F,ρ,Ls,R,_,w,q,fun vs H1 as ρ1 F1 Ls1 La r1 w1 s1 ⟨d,e,e1,e2,q1⟩=>by
  obtain ⟨u,v,L1,L2,rfl,rfl,ru,rv⟩:=(r1.all w1 e1 e2).two
  have w2:=(show WS X.K F1 H1 σ ρ1 Ls1 (L1++(L2++R)) by rw [← List.append_assoc];exact w1).set (i:=i) ru
  have w3:=w2.set (i:=j) rv
  refine ⟨u,v,rfl,pe.nx _ H1 _ F1 _ w3 ⟨s1.keep,s1.mono,fun k a m=>?_,fun a h=>absurd h (by simp)⟩ (fun z hz=>by rw [Oc hf1 z hz,Oc hf0 z hz]) q1⟩
  rcases rz m with m | m
  ·exact s1.srcD a (List.mem_append_right _ m)
  ·rcases rz m with m | m
   ·exact s1.srcD a (List.mem_append_left _ m)
   ·exact s1.src k a m⟩
def Yp (f:Int->Int->Int) (i:Nat) (se:bU):cD:=fun ρ E=>∃ n,ρ[i]? = some (some (.int n))∧se ρ fun d ρ'=>∃ m,d = .int m∧E.nx (ρ'.set i (some (.int (f n m))))
def ixF (c:D) (k:Int):Option (D×Option D):=match dIx [c,.int k] with
 | some f=>some (f,none)
 | none=>match c with
  | .lst o ds=>(ixN ds.length k).bind fun j=>(ds[j]?).map fun d=>(d.fz,some (.lst o (ds.set j d.fz)))
  | .tup ds=>(ixN ds.length k).bind fun j=>(ds[j]?).map fun d=>(d.fz,some (.tup (ds.set j d.fz)))
  | _=>none
def NB (ρ : En) (i:Nat):Option D->En
 | none=>ρ
 | some c=>ρ.set i (some c)
def aW (i:Nat) (oi:Opd):bU:=fun ρ Q=>eQ [.nam i,oi] ρ fun as ρ'=>∃ a c k f t,as=[.nam i,a] ∧ ρ'[i]? = some (some c)∧a.get ρ'=some (.int k)∧ixF c k=some (f,t)∧Q f (NB ρ' i t)
section
variable {K:PySem.W.Frag} {F:Addr->Prop} {H:Hp} {σ : St} {ρ : En} {Ls:Nat->List Addr} {R:List Addr}
theorem Rps.splitF:∀ {vs:List V} {ds:List D} {L:List Addr} {k:Nat} {d:D},Rps K F H vs ds L->ds[k]? = some d -> ∃ v L1 Lk L2,L=L1++(Lk++L2)∧vs[k]? = some v∧Rp K F H v d Lk ∧
  ∀ F':Addr->Prop,(∀ a,F a->F' a)->(∀ a∈Lk,F' a)->Rps K F' H vs (ds.set k d.fz) (L1++L2)
 | _,_,_,k,d,.nil,e=>by simp at e
 | _,_,_,0,d,.cons (L:=L) (M:=M) r rs,e=>by
  simp at e
  subst e
  exact ⟨_,[],L,M,rfl,rfl,r,fun F' h1 h2=>.cons (L:=[]) (r.freeze h1 h2) (rs.mono h1 (fun _ _ e _=>e) (fun _ _ _ e=>e) fun _ _ _ e=>e)⟩
 | _,_,_,k+1,d,.cons (L:=L) (M:=M) r rs,e=>by
  obtain ⟨v,L1,Lk,L2,rfl,h1,h2,h3⟩:=Rps.splitF (k:=k) rs (by simpa using e)
  refine ⟨v,L++L1,Lk,L2,by rw [List.append_assoc],by simpa using h1,h2,fun F' g1 g2=>?_⟩
  rw [List.append_assoc]
  exact .cons (r.mono g1 (fun _ _ e _=>e) (fun _ _ _ e=>e) fun _ _ _ e=>e) (h3 F' g1 g2)
theorem WS.part {i:Nat} {c c':D} {v:V} {L' M:List Addr} (w:WS K F H σ ρ Ls R) (e : ρ[i]? = some (some c)) (hv : σ[i]? = some (some v)) (hp:(L'++M).Perm (Ls i)) (r':Rp K (fun a=>F a∨a∈M) H v c' L') :
  WS K (fun a=>F a∨a∈M) H σ (ρ.set i (some c')) (kY Ls i L') R:=by
 have hi:i < ρ.length:=(List.getElem?_eq_some_iff.mp e).1
 have ndI:(L'++M).Nodup:=hp.nodup_iff.mpr (w.nd i)
 have nd:=List.nodup_append.mp ndI
 have src:∀ {j:Nat} {b:Addr},b∈kY Ls i L' j->b∈Ls j∧(j=i->b∈L'):=fun {j b} m=>by
  by_cases q:j=i
  ·subst q;rw [aY] at m;exact ⟨hp.mem_iff.mp (List.mem_append_left _ m),fun _=>m⟩
  ·rw [bB q] at m;exact ⟨m,fun z=>absurd z q⟩
 have mM:∀ b∈M,b∈Ls i:=fun b m=>hp.mem_iff.mp (List.mem_append_right _ m)
 exact {
  len:=by rw [List.length_set];exact w.len
  sl:=fun j d2 e2=>by
   by_cases q:j=i
   ·subst q
    rw [List.getElem?_set_self hi] at e2
    cases e2
    exact ⟨v,hv,by rw [aY];exact r'⟩
   ·rw [List.getElem?_set_ne (Ne.symm q)] at e2
    obtain ⟨u,h1,h2⟩:=w.sl j d2 e2
    exact ⟨u,h1,by rw [bB q];exact h2.mono (fun _ h=>.inl h) (fun _ _ e _=>e) (fun _ _ _ e=>e) fun _ _ _ e=>e⟩
  em:=fun j h=>by
   by_cases q:j=i
   ·subst q;exact absurd (List.getElem?_set_self hi) (h c')
   ·rw [bB q];exact w.em j fun d2 z=>h d2 (by rw [List.getElem?_set_ne (Ne.symm q)];exact z)
  nd:=fun j=>by
   by_cases q:j=i
   ·rw [q,aY];exact nd.1
   ·rw [bB q];exact w.nd j
  dj:=fun j j' b h h'=>w.dj j j' b (src h).1 (src h').1
  rd:=w.rd
  rj:=fun j b m=>w.rj j b (src m).1
  nf:=fun j b m z=>by
   rcases z with z | z
   ·exact w.nf j b (src m).1 z
   ·have e1:=w.dj j i b (src m).1 (mM b z)
    exact nd.2.2 b ((src m).2 e1) b z rfl
  nr:=fun b m z=>by
   rcases z with z | z
   ·exact w.nr b m z
   ·exact w.rj i b (mM b z) m
  tr:=w.tr
  ft:=fun b z=>by
   rcases z with z | z
   ·exact w.ft b z
   ·obtain ⟨xs,q⟩:=w.own (mM b z);rw [q];simp }
theorem Step.part {i:Nat} {L' M:List Addr} (hp:(L'++M).Perm (Ls i)):Step F H Ls (fun a=>F a∨a∈M) H (kY Ls i L') []:=
 ⟨fun _ _ e _=>e,fun _ h=>.inl h,fun j a m=>by
  by_cases q:j=i
  ·subst q;rw [aY] at m;exact .inl ⟨j,hp.mem_iff.mp (List.mem_append_left _ m)⟩
  ·rw [bB q] at m;exact .inl ⟨j,m⟩,fun a h=>absurd h (by simp)⟩
end
section
variable {X:Cx} {K:PySem.W.Frag} {σ : St} {H:Hp} {oi:Opd} {i:Nat}
theorem WD {Q:VK} (h:kJ K (aW i oi) σ H Q):tK K [.nam i,oi] σ H fun vs H1=>∃ x y,vs=[x,y]∧rIx K x y H1 Q:=by
 obtain ⟨F,ρ,Ls,R,Qd,w,q,kk⟩:=h
 refine ⟨F,ρ,Ls,R,_,w,q,fun vs H1 as ρ1 F1 Ls1 La r1 w1 s1 ⟨a,c,k,f,t,ea,ec,ek,e,q1⟩=>?_⟩
 subst ea
 cases r1 with
 | @nam v vs _ _ _ hv rk=>
  obtain ⟨kv,rfl⟩:∃ kv,vs=[kv]:=by
   cases rk with
   | val _ z=>cases z;exact ⟨_,rfl⟩
   | nam _ z=>cases z;exact ⟨_,rfl⟩
  have hk:=Hi w1 rk ek
  subst hk
  obtain ⟨v',hv',rc⟩:=w1.sl i c ec
  rw [hv] at hv'
  cases hv'
  have w2:=w1.less (List.sublist_append_right La R)
  have s2:=s1.more (Ld2:=[]) fun a h=>absurd h (by simp)
  refine ⟨v,.int k,rfl,?_⟩
  unfold ixF at e
  split at e
  ·rename_i f' ef
   cases e
   obtain ⟨x',y',e',rr⟩:=fP F1 H1 [v,.int k] [c,.int k] f Q (.cons rc (.cons (.int k) .nil)) ef fun u H' Lf o=>by
    obtain ⟨rf,o⟩:=o
    rcases o with ⟨rfl,rfl⟩ | ⟨p,hn,⟨xs,rfl,rfl⟩ | ⟨xs,rfl,rfl⟩⟩
    ·exact kk u _ f ρ1 F1 Ls1 [] rf w2 s2 q1
    ·exact kk u _ f ρ1 F1 Ls1 [p] rf (w2.put hn) ((s2.trans (Step.laid hn)).more fun a ha=>by
      cases List.mem_singleton.mp ha
      by_cases z:∃ j,p∈Ls j
      ·exact .inl z
      ·cases q:H p with
       | none=>exact .inr rfl
       | some o=>rw [s1.keep p o q fun i z'=>z ⟨i,z'⟩] at hn;cases hn) q1
    ·exact kk u _ f ρ1 F1 Ls1 [] rf (w2.laid hn) (s2.trans (Step.laid hn)) q1
   cases e'
   exact rr
  ·split at e
   ·rename_i o ds _
    obtain ⟨j,ej,e1⟩:=Option.bind_eq_some_iff.mp e
    obtain ⟨d,e2,e3⟩:=Option.map_eq_some_iff.mp e1
    cases e3
    generalize hLi:Ls1 i=Li at rc
    cases rc with
    | @frz a vs _ ha fa rs=>
     obtain ⟨u,L1,Lk,L2,eL,h1,h2,h3⟩:=rs.splitF e2
     have eL1:=List.append_eq_nil_iff.mp eL.symm
     have eL2:=List.append_eq_nil_iff.mp eL1.2
     cases eL1.1;cases eL2.1;cases eL2.2
     refine .inl ⟨a,vs,k,u,rfl,rfl,.of ha,(by unfold atI;rw [rs.length,ej];exact h1),?_⟩
     refine kk u H1 d.fz _ (fun z=>F1 z∨z∈([]:List Addr)) (kY Ls1 i []) [] (h2.freeze (fun _ h=>.inl h) fun _ h=>absurd h (by simp)) (w2.part ec hv (L':=[]) (M:=[]) (by rw [hLi];exact .refl _) (.frz ha (.inl fa) (h3 _ (fun _ h=>.inl h) fun _ h=>absurd h (by simp)))) (s2.trans (Step.part (by rw [hLi];exact .refl _))) q1
    | @own a vs _ M ha rs=>
     obtain ⟨u,L1,Lk,L2,rfl,h1,h2,h3⟩:=rs.splitF e2
     refine .inl ⟨a,vs,k,u,rfl,rfl,.of ha,(by unfold atI;rw [rs.length,ej];exact h1),?_⟩
     have hp:(a :: (L1++L2)++Lk).Perm (Ls1 i):=by
      rw [hLi]
      refine List.Perm.cons a ?_
      show List.Perm (L1++L2++Lk) _
      rw [List.append_assoc]
      exact (List.Perm.refl L1).append List.perm_append_comm
     exact kk u H1 d.fz _ (fun z=>F1 z∨z∈Lk) (kY Ls1 i (a :: (L1++L2))) [] (h2.freeze (fun _ h=>.inl h) fun _ h=>.inr h) (w2.part ec hv hp (.own ha (h3 _ (fun _ h=>.inl h) fun _ h=>.inr h))) (s2.trans (Step.part hp)) q1
   ·rename_i ds _
    obtain ⟨j,ej,e1⟩:=Option.bind_eq_some_iff.mp e
    obtain ⟨d,e2,e3⟩:=Option.map_eq_some_iff.mp e1
    cases e3
    generalize hLi:Ls1 i=Li at rc
    cases rc with
    | @tup a vs _ _ ha rs=>
     obtain ⟨u,L1,Lk,L2,rfl,h1,h2,h3⟩:=rs.splitF e2
     refine .inr (.inl ⟨a,vs,k,u,rfl,rfl,.of ha,(by unfold atI;rw [rs.length,ej];exact h1),?_⟩)
     have hp:(L1++L2++Lk).Perm (Ls1 i):=by
      rw [hLi,List.append_assoc]
      exact (List.Perm.refl L1).append List.perm_append_comm
     exact kk u H1 d.fz _ (fun z=>F1 z∨z∈Lk) (kY Ls1 i (L1++L2)) [] (h2.freeze (fun _ h=>.inl h) fun _ h=>.inr h) (w2.part ec hv hp (.tup ha (h3 _ (fun _ h=>.inl h) fun _ h=>.inr h))) (s2.trans (Step.part hp)) q1
   ·cases e
theorem aH {x:Str} {b:Expr} {p pos:Pos} (ha:SO X (.Name x p) (.nam i)) (hb:SO X b oi) (hs:ut b):SE X (.Subscript (.Name x p) b pos) (aW i oi):=
 (Nm ik ha hb hs).wk fun σ H Q h=>xO (WD h)
end
end L2
namespace L2
open PySem PySem.Spec PyProof.Rows
def Ed:List D->Option D
 | [.int i]=>some (.int (if i<0 then -i else i))
 | _=>none
theorem vo {K:PySem.W.Frag}:cN K (fun xs H Q=>∃ i,xs=[.int i]∧Q (.int (if i<0 then -i else i)) H) Ed:=by
 intro F H vs ds f Q r e q
 unfold Ed at e
 split at e
 ·cases e
  obtain ⟨x,L,rfl,r1⟩:=r.one
  cases r1.isInt
  exact ⟨_,rfl,q _ _ _ (.ofFlat rfl)⟩
 ·cases e
def Ir:List D->Option D
 | [.int i,.int j]=>some (.int (if j>i then j else i))
 | _=>none
def Br:List D->Option D
 | [.int i,.int j]=>some (.int (if j<i then j else i))
 | _=>none
theorem BL {K:PySem.W.Frag}:cN K (fun xs H Q=>∃ i j,xs=[.int i,.int j]∧Q (.int (if j>i then j else i)) H) Ir:=by
 intro F H vs ds f Q r e q
 unfold Ir at e
 split at e
 ·cases e
  obtain ⟨x,y,L,M,rfl,r1,r2⟩:=r.two
  cases r1.isInt;cases r2.isInt
  exact ⟨_,_,rfl,q _ _ _ (.ofFlat rfl)⟩
 ·cases e
theorem vy {K:PySem.W.Frag}:cN K (fun xs H Q=>∃ i j,xs=[.int i,.int j]∧Q (.int (if j<i then j else i)) H) Br:=by
 intro F H vs ds f Q r e q
 unfold Br at e
 split at e
 ·cases e
  obtain ⟨x,y,L,M,rfl,r1,r2⟩:=r.two
  cases r1.isInt;cases r2.isInt
  exact ⟨_,_,rfl,q _ _ _ (.ofFlat rfl)⟩
 ·cases e
def Ip:List D->Option D
 | [.int i]=>some (.int i)
 | [.bl k]=>some (.int (if k then 1 else 0))
 | _=>none
theorem BJ {K:PySem.W.Frag}:cN K (fun xs H Q=>(∃ i,xs=[.int i]∧Q (.int i) H) ∨ ∃ k,xs=[.bl k]∧Q (.int (if k then 1 else 0)) H) Ip:=by
 intro F H vs ds f Q r e q
 unfold Ip at e
 split at e
 ·cases e
  obtain ⟨x,L,rfl,r1⟩:=r.one
  cases r1.isInt
  exact .inl ⟨_,rfl,q _ _ _ (.ofFlat rfl)⟩
 ·cases e
  obtain ⟨x,L,rfl,r1⟩:=r.one
  cases r1.isBl
  exact .inr ⟨_,rfl,q _ _ _ (.ofFlat rfl)⟩
 ·cases e
def D.tyName:D->Option String
 | .non=>some "NoneType"
 | .bl _=>some "bool"
 | .int _=>some "int"
 | .str _=>some "str"
 | .tup _=>some "tuple"
 | .lst _ _=>some "list"
 | _=>none
def WN (t T:String):Option Bool:=
 if T = "int" then (if t = "int" then some true else if t = "bool" then some true else if t = "NoneType" ∨ t = "str" ∨ t = "tuple" ∨ t = "list" then some false else none)
 else if T = "bool" then (if t = "bool" then some true else if t = "int" ∨ t = "NoneType" ∨ t = "str" ∨ t = "tuple" ∨ t = "list" then some false else none)
 else if T = "tuple" then (if t = "tuple" then some true else if t = "int" ∨ t = "bool" ∨ t = "NoneType" ∨ t = "str" ∨ t = "list" then some false else none)
 else if T = "list" then (if t = "list" then some true else if t = "int" ∨ t = "bool" ∨ t = "NoneType" ∨ t = "str" ∨ t = "tuple" then some false else none)
 else if T = "str" then (if t = "str" then some true else if t = "int" ∨ t = "bool" ∨ t = "NoneType" ∨ t = "tuple" ∨ t = "list" then some false else none)
 else none
theorem Vg {K:PySem.W.Frag} {t T:String} {b:Bool} (h:WN t T=some b):PySem.W.kitOne K (.type t) (.type T)=some b:=by
 unfold WN at h
 repeat' split at h
 all_goals (first | (cases h;done) | (cases h;subst_vars;rfl) | (cases h;rename_i z;rcases z with z | z | z | z | z <;> subst z <;> subst_vars <;> kernel_rfl) | (cases h;rename_i z;rcases z with z | z | z | z <;> subst z <;> subst_vars <;> kernel_rfl) | (cases h;subst_vars;kernel_rfl))
def oh:List D->Option D
 | [d,.ty T]=>(d.tyName.bind fun t=>WN t T).map D.bl
 | _=>none
theorem Rp.tyOf {K:PySem.W.Frag} {F:Addr->Prop} {H:Hp} {v:V} {d:D} {L:List Addr} {t:String} (r:Rp K F H v d L) (e:d.tyName=some t):TyOf K H v (.type t):=by
 cases r with
 | non=>cases e;exact .non
 | bl b=>cases e;exact .bl b
 | int i=>cases e;exact .int i
 | str x=>cases e;exact .str x
 | ty n=>cases e
 | xc _ _ _=>cases e
 | fn _=>cases e
 | scr h=>cases e
 | tup h r=>cases e;exact .tup h
 | frz h f r=>cases e;exact .lst h
 | own h r=>cases e;exact .lst h
theorem jo {K:PySem.W.Frag}:cN K (fun xs H Q=>∃ (x:V) (T:String) (t:Value) (b:Bool),xs=[x,.ty T]∧TyOf K H x t∧PySem.W.kitOne K t (.type T)=some b∧Q (.bl b) H) oh:=by
 intro F H vs ds f Q r e q
 unfold oh at e
 split at e
 ·obtain ⟨b,e1,rfl⟩:=Option.map_eq_some_iff.mp e
  obtain ⟨t,e2,e3⟩:=Option.bind_eq_some_iff.mp e1
  obtain ⟨x,y,L,M,rfl,r1,r2⟩:=r.two
  cases r2
  exact ⟨_,_,_,b,rfl,r1.tyOf e2,Vg e3,q _ _ _ (.ofFlat rfl)⟩
 ·cases e
theorem uf {X:Cx} {x:Str} {n:String} {pos:Pos} (hg:Gl X x) (hm:X.mg x=none) (hv:bootBuiltins x=some (.type n)) (hn:x ≠ "__name__":=by decide) (hd:(x==("__debug__" : Str))=false:=by decide):SE X (.Name x pos) (sC (.ty n)):=
 (Rj (v:=.ty n) hg hm hv rfl hn hd).wk fun _ _ _ h=>kO rfl h
def D.bools:List D->Option (List Bool)
 | []=>some []
 | .bl b :: ds=>(D.bools ds).map (b :: ·)
 | _=>none
theorem Rps.bools {K:PySem.W.Frag} {F:Addr->Prop} {H:Hp}:∀ {vs:List V} {ds:List D} {L:List Addr} {bs:List Bool},Rps K F H vs ds L->D.bools ds=some bs->vs=bs.map V.bl
 | _,_,_,_,.nil,e=>by cases e;rfl
 | _,_,_,_,.cons (d:=d) (ds:=ds) r rs,e=>by
  cases d with
  | bl b=>
   rw [D.bools] at e
   obtain ⟨cs,e1,rfl⟩:=Option.map_eq_some_iff.mp e
   rw [r.isBl,Rps.bools rs e1];rfl
  | _=>simp [D.bools] at e
def Qe:List D->Option D
 | [.lst _ ds]=>(D.bools ds).map fun bs=>.bl (bs.all id)
 | _=>none
def Qf:List D->Option D
 | [.lst _ ds]=>(D.bools ds).map fun bs=>.bl (bs.any id)
 | _=>none
theorem Kh {K:PySem.W.Frag}:cN K (fun xs H Q=>∃ (p:Addr) (bs:List Bool),xs=[.ref p]∧SqL K H p (bs.map V.bl)∧Q (.bl (bs.all id)) H) Qe:=by
 intro F H vs ds f Q r e q
 unfold Qe at e
 split at e
 ·obtain ⟨bs,e1,rfl⟩:=Option.map_eq_some_iff.mp e
  obtain ⟨x,L,rfl,r1⟩:=r.one
  obtain ⟨a,vs,L1,rfl,ha,ra,_⟩:=r1.lst_at
  rw [ra.bools e1] at ha
  exact ⟨_,_,rfl,.of ha,q _ _ _ (.ofFlat rfl)⟩
 ·cases e
theorem Kl {K:PySem.W.Frag}:cN K (fun xs H Q=>∃ (p:Addr) (bs:List Bool),xs=[.ref p]∧SqL K H p (bs.map V.bl)∧Q (.bl (bs.any id)) H) Qf:=by
 intro F H vs ds f Q r e q
 unfold Qf at e
 split at e
 ·obtain ⟨bs,e1,rfl⟩:=Option.map_eq_some_iff.mp e
  obtain ⟨x,L,rfl,r1⟩:=r.one
  obtain ⟨a,vs,L1,rfl,ha,ra,_⟩:=r1.lst_at
  rw [ra.bools e1] at ha
  exact ⟨_,_,rfl,.of ha,q _ _ _ (.ofFlat rfl)⟩
 ·cases e
def jC:List D->Option D
 | [.lst _ ds]=>if D.shs ds=true then some (.lst true ds) else none
 | [.tup ds]=>if D.shs ds=true then some (.lst true ds) else none
 | _=>none
theorem ou {K:PySem.W.Frag}:cN K (fun xs H Q=>∃ p ys,xs=[.ref p]∧(SqL K H p ys∨SqT K H p ys) ∧ ∀ l,H l=none->Q (.ref l) (upd H l (.lst ys))) jC:=by
 intro F H vs ds f Q r e q
 unfold jC at e
 split at e
 ·split at e
  ·rename_i hs
   cases e
   obtain ⟨x,L,rfl,r1⟩:=r.one
   obtain ⟨a,vs,L1,rfl,ha,ra,_⟩:=r1.lst_at
   cases ra.sh_nil hs
   exact ⟨_,_,rfl,.inl (.of ha),fun l hl=>q _ _ _ (.list hl ra)⟩
  ·cases e
 ·split at e
  ·rename_i hs
   cases e
   obtain ⟨x,L,rfl,r1⟩:=r.one
   obtain ⟨a,vs,rfl,ha,ra⟩:=r1.tup_at
   cases ra.sh_nil hs
   exact ⟨_,_,rfl,.inr ha,fun l hl=>q _ _ _ (.list hl ra)⟩
  ·cases e
 ·cases e
def zc:List D->Option D
 | [.lst _ ds]=>if D.shs ds=true then some (.tup ds) else none
 | [.tup ds]=>if D.shs ds=true then some (.tup ds) else none
 | _=>none
theorem Eg {K:PySem.W.Frag}:cN K (fun xs H Q=>∃ p ys,xs=[.ref p]∧((SqL K H p ys ∧ ∀ l,H l=none->Q (.ref l) (upd H l (.tup ys)))∨(SqT K H p ys∧Q (.ref p) H))) zc:=by
 intro F H vs ds f Q r e q
 unfold zc at e
 split at e
 ·split at e
  ·rename_i hs
   cases e
   obtain ⟨x,L,rfl,r1⟩:=r.one
   obtain ⟨a,vs,L1,rfl,ha,ra,_⟩:=r1.lst_at
   cases ra.sh_nil hs
   exact ⟨_,_,rfl,.inl ⟨.of ha,fun l hl=>q _ _ _ (.tuple hl ra)⟩⟩
  ·cases e
 ·split at e
  ·rename_i hs
   cases e
   obtain ⟨x,L,rfl,r1⟩:=r.one
   obtain ⟨a,vs,rfl,ha,ra⟩:=r1.tup_in
   cases ra.sh_nil hs
   exact ⟨_,_,rfl,.inr ⟨.of ha,q _ _ _ (.same (.tup ha ra))⟩⟩
  ·cases e
 ·cases e
def cutD (xs:List D) (lo hi:Option Int):List D:=(xs.drop (HT.sIx xs.length 0 lo)).take (HT.sIx xs.length xs.length hi - HT.sIx xs.length 0 lo)
def dSl:D->Option Int->Option Int->Option D
 | .lst _ ds,lo,hi=>if D.shs ds=true then some (.lst true (cutD ds lo hi)) else none
 | .tup ds,lo,hi=>if (D.shs ds && !decide (HT.sIx ds.length 0 lo=0∧HT.sIx ds.length ds.length hi=ds.length))=true then some (.tup (cutD ds lo hi)) else none
 | _,_,_=>none
def nC (o lo:Opd):bU:=sDo (fun ds=>match ds with | [d,.int l]=>dSl d (some l) none | _=>none) [o,lo]
def HS (o hi:Opd):bU:=sDo (fun ds=>match ds with | [d,.int h]=>dSl d none (some h) | _=>none) [o,hi]
def wU (K:PySem.W.Frag):V->Option Int->Option Int->Hp->VK->Prop:=fun x lo hi H Q=>Yl K x lo hi H Q∨Ym K x lo hi H Q
theorem Rps.cutR {K:PySem.W.Frag} {F:Addr->Prop} {H:Hp} {vs:List V} {ds:List D} (r:Rps K F H vs ds []) (lo hi:Option Int):Rps K F H (Bg vs lo hi) (cutD ds lo hi) []:=by
 unfold Bg cutD
 rw [r.length]
 obtain ⟨L1,L2,e,_,h2⟩:=r.cut (HT.sIx ds.length 0 lo)
 have e2:=(List.append_eq_nil_iff.mp e.symm).2
 subst e2
 obtain ⟨L1,L2,e,h1,_⟩:=h2.cut (HT.sIx ds.length ds.length hi - HT.sIx ds.length 0 lo)
 have e1:=(List.append_eq_nil_iff.mp e.symm).1
 subst e1
 exact h1
theorem uz {K:PySem.W.Frag} {F:Addr->Prop} {H:Hp} {x:V} {d f:D} {L:List Addr} {lo hi:Option Int} {Q:VK} (r:Rp K F H x d L) (e:dSl d lo hi=some f) (q:∀ v H' Lf,Out K F H f v H' Lf->Q v H'):wU K x lo hi H Q:=by
 unfold dSl at e
 split at e
 ·split at e
  ·rename_i hs
   cases e
   obtain ⟨a,vs,L1,rfl,ha,ra,_⟩:=r.lst_at
   cases ra.sh_nil hs
   exact .inl ⟨_,_,rfl,.of ha,fun p hp=>q _ _ _ (.list hp (ra.cutR lo hi))⟩
  ·cases e
 ·split at e
  ·rename_i hs
   cases e
   rw [Bool.and_eq_true] at hs
   obtain ⟨a,vs,rfl,ha,ra⟩:=r.tup_at
   cases ra.sh_nil hs.1
   refine .inr ⟨_,_,rfl,ha,?_,fun p hp=>q _ _ _ (.tuple hp (ra.cutR lo hi))⟩
   rw [ra.length]
   intro hc
   have:=hs.2
   rw [decide_eq_true hc] at this
   cases this
  ·cases e
 ·cases e
section
variable {X:Cx} {e idx:Expr} {o oi:Opd} {pos p2:Pos}
theorem Fz:SlR X (wU X.K):=RX.or Wu
theorem pI (he:SO X e o) (hi:SO X idx oi):SE X (.Subscript e (.Slice (some idx) none none p2) pos) (nC o oi):=
 (rn Fz he (uJ hi) uI).wk fun σ H Q h=>by
  have t:=jf (K:=X.K) (r:=fun vs H Q=>∃ x l,vs=[x,.int l]∧wU X.K x (some l) none H Q) (fun F H vs ds f Q r e q=>by
   split at e
   ·obtain ⟨x,y,L,M,rfl,r1,r2⟩:=r.two
    cases r2.isInt
    exact ⟨x,_,rfl,uz r1 e q⟩
   ·cases e) h
  refine ie (fun x H1 t1=>?_) (dM t)
  refine ie (fun y H2 t2=>?_) (dM t1)
  obtain ⟨F,ρ,Ls,R,Qd,w,q,k⟩:=t2
  obtain ⟨x',l,e,q⟩:=k [] H2 [] ρ F Ls [] .nil w Step.refl q
  cases e
  exact ⟨l,rfl,q⟩
theorem RQ (he:SO X e o) (hi:SO X idx oi):SE X (.Subscript e (.Slice none (some idx) none p2) pos) (HS o oi):=
 (rn Fz he uI (uJ hi)).wk fun σ H Q h=>by
  have t:=jf (K:=X.K) (r:=fun vs H Q=>∃ x l,vs=[x,.int l]∧wU X.K x none (some l) H Q) (fun F H vs ds f Q r e q=>by
   split at e
   ·obtain ⟨x,y,L,M,rfl,r1,r2⟩:=r.two
    cases r2.isInt
    exact ⟨x,_,rfl,uz r1 e q⟩
   ·cases e) h
  refine ie (fun x H1 t1=>?_) (dM t)
  refine ie (fun y H2 t2=>?_) (dM t1)
  obtain ⟨F,ρ,Ls,R,Qd,w,q,k⟩:=t2
  obtain ⟨x',l,e,q⟩:=k [] H2 [] ρ F Ls [] .nil w Step.refl q
  cases e
  exact ⟨l,rfl,q⟩
end
theorem Known.sem {P:Program} {w:World} {K:PySem.W.Frag} {mg:Str->Option Value} {base:Heap} {x:Str} {st:Stmt} {ps N:List Str} {k:Nat} {io:Bool} {b:cD} (h:Known K mg x st ps) (S:FnScope N ps (aL st)) (ht:P.given.tree=none)
  (hb:∀ (X:Cx) (cdv:Value) (f:Addr) (A:Around) (outer:List Env) (s:Shared) (H:Hp) (E:XK),X=(ul CX0 P w K mg base N x (aL st) f cdv A outer s H E).nox->Cc X k->SL X (kpF io) (gF st) b) :
  Prm P w K mg base x (k+1) ps (bj K ps.length io (fnS ps.length (N.length - ps.length) io b)):=by
 obtain ⟨f,fd,F,bd,g⟩:=h
 obtain ⟨oc,od,kV,doc,pm,an,cdv,ct,osl,rfl,lk,hcd⟩:=F.ex
 refine ⟨f,_,Lq lk hcd S fun A outer s H E hr=>?_,bd,g,F.kp⟩
 have hc:Cc (ul CX0 P w K mg base N x (aL st) f cdv A outer s H E).nox k:=⟨rfl,hr,ht,⟨_,_,rfl,S.gen,S.co,rfl,rfl⟩⟩
 exact PSs.nox (hb _ cdv f A outer s H E rfl hc)
theorem Cc.comp {X:Cx} {k:Nat} {scope:Scope} {N:List Str} {cl:List (Str×Addr)} {C:Addr} {fp:List Addr} {s₂ : Shared} {H₂ : Hp} (c:Cc X k):Cc (X.comp scope N cl C fp s₂ H₂) k:=⟨c.calm,c.room,c.tree,c.seer⟩
section
variable {X:Cx} {x:Str} {k n:Nat} {ps:List Str} {sf:dg} {e:Expr} {es:List Expr} {os:List Opd} {p pos:Pos}
theorem bN (h:Prm X.prog X.w X.K X.mg X.base x k ps (bj X.K n false sf)) (hr:Room k X.A) (hg:Gl X x) (ha:SA X (e :: es) os)
  (hdb:(x==("__debug__" : Str))=false:=by decide) (he:starEach (e :: es) X.env=(false,eval e X.env) :: starEach es X.env:=by rfl) (hpl:(backTo pos (starEach es X.env)).any (·.1)=false:=by rfl) :
  SE X (.Call (.Name x p) (e :: es) [] pos) (aV n sf os):=by
 obtain ⟨f,fd,F,b,g,kp⟩:=h
 exact RN F hr hg g kp b Tu ha hdb he hpl
theorem fc {i:Nat} (h:Prm X.prog X.w X.K X.mg X.base x k ps (bj X.K n true sf)) (hr:Room k X.A) (hg:Gl X x) (ha:SA X (e :: es) (.nam i :: os))
  (hdb:(x==("__debug__" : Str))=false:=by decide) (he:starEach (e :: es) X.env=(false,eval e X.env) :: starEach es X.env:=by rfl) (hpl:(backTo pos (starEach es X.env)).any (·.1)=false:=by rfl) :
  SE X (.Call (.Name x p) (e :: es) [] pos) (cG n sf i os):=by
 obtain ⟨f,fd,F,b,g,kp⟩:=h
 exact Oa F hr hg g kp b Tu ha hdb he hpl
theorem sv (i:Nat) {pos:Pos} (hN:X.N[i]? = some x:=by rfl) (hv:Vis X.env.scope x:=by first | exact Or.inl rfl | exact Or.inr (Or.inl rfl) | exact Or.inr (Or.inr rfl)) (hd:(x==("__debug__" : Str))=false:=by decide)
  (hcd:(x==("__classdict__" : Str))=false:=by decide):SE X (.Name x pos) (cC i):=Ws hN hv hd hcd
theorem sn (i:Nat) {pos:Pos} (hN:X.N[i]? = some x:=by rfl) (hv:Vis X.env.scope x:=by first | exact Or.inl rfl | exact Or.inr (Or.inl rfl) | exact Or.inr (Or.inr rfl)) (hd:(x==("__debug__" : Str))=false:=by decide)
  (hcd:(x==("__classdict__" : Str))=false:=by decide):SO X (.Name x pos) (.nam i):=Wv hN hv hd hcd
end
end L2
namespace L2
open PySem PySem.Spec PyProof.Rows
def sZ (g g':List D->Option D) (o1 o2 o3:Opd):bU:=fun ρ Q=>eQ [o1,o2] ρ fun as ρ1=>∃ d j b,bG ρ1 as=some [d,.int j]∧g [d,.int j]=some (.bl b) ∧
 if b=true then eQ [o3] ρ1 fun as2 ρ2=>∃ f c,bG ρ2 as2=some [f]∧g' [.int j,f]=some (.bl c)∧Q (.bl c) ρ2 else Q (.bl false) ρ1
section
variable {X:Cx} {a b c:Expr} {o1 o2 o3:Opd} {pos:Pos} {r r':R2} {g g':List D->Option D} {K:PySem.W.Frag} {σ : St} {H:Hp}
theorem OJ (hg:cN K (r2 r) g) (hg':cN K (r2 r') g') {Q:VK} (h:kJ K (sZ g g' o1 o2 o3) σ H Q):Ou r r' (rN K o1) (rN K o2) (rN K o3) σ H Q:=by
 obtain ⟨F,ρ,Ls,R,Qd,w,q,k⟩:=h
 have t:tK K [o1,o2] σ H fun vs H1=>∃ x y,vs=[x,y]∧r x y H1 fun z H3=>∃ b,z = .bl b∧(if b=true then rN K o3 σ H3 fun w' H4=>r' y w' H4 Q else Q (.bl false) H3):=by
  refine ⟨F,ρ,Ls,R,_,w,q,fun vs H1 as ρ1 F1 Ls1 La r1 w1 s1 ⟨d,j,b,e1,e2,q1⟩=>?_⟩
  obtain ⟨x,y,L,M,rfl,rx,ry⟩:=(r1.at w1 e1).two
  cases ry.isInt
  obtain ⟨x',y',e',rr⟩:=hg F1 H1 [x,.int j] [d,.int j] (.bl b) (fun z H3=>∃ b,z = .bl b∧(if b=true then rN K o3 σ H3 fun w' H4=>r' (.int j) w' H4 Q else Q (.bl false) H3)) (.cons rx (.cons (.int j) .nil)) e2 fun v H' Lf o=>by
   obtain ⟨rf,o⟩:=o
   cases rf.isBl
   refine ⟨b,rfl,?_⟩
   have hH:H'=H1 ∨ ∃ p u,H1 p=none∧H'=upd H1 p u:=by
    rcases o with ⟨z,_⟩ | ⟨p,hn,⟨xs,z,_⟩ | ⟨xs,z,_⟩⟩
    ·exact .inl z
    ·exact .inr ⟨p,_,hn,z⟩
    ·exact .inr ⟨p,_,hn,z⟩
   have w2:WS K F1 H' σ ρ1 Ls1 R∧Step F H Ls F1 H' Ls1 []:=by
    have w1':=w1.less (List.sublist_append_right La R)
    have s1':=s1.more (Ld2:=[]) fun a h=>absurd h (by simp)
    rcases hH with rfl | ⟨p,u,hn,rfl⟩
    ·exact ⟨w1',s1'⟩
    ·exact ⟨w1'.laid hn,s1'.trans (Step.laid hn)⟩
   obtain ⟨w2,s2⟩:=w2
   cases b with
   | false=>
    rw [if_neg Bool.false_ne_true] at q1 ⊢
    exact k _ H' _ ρ1 F1 Ls1 [] (.bl false) w2 s2 q1
   | true=>
    rw [if_pos rfl] at q1 ⊢
    have t3:tK K [o3] σ H' fun vs H4=>∃ w',vs=[w']∧r' (.int j) w' H4 Q:=by
     refine ⟨F1,ρ1,Ls1,R,_,w2,q1,fun vs H4 as2 ρ2 F2 Ls2 La2 r3 w3 s3 ⟨f,c,e3,e4,q3⟩=>?_⟩
     obtain ⟨w',L',rfl,rw'⟩:=(r3.at w3 e3).one
     obtain ⟨x',y',e',rr⟩:=hg' F2 H4 [.int j,w'] [.int j,f] (.bl c) Q (.cons (.int j) (.cons rw' .nil)) e4 fun v H5 Lf o=>by
      obtain ⟨rf,o⟩:=o
      cases rf.isBl
      have w3':=w3.less (List.sublist_append_right La2 R)
      have s3':=(s2.trans s3).more (Ld2:=[]) fun a h=>absurd h (by simp)
      rcases o with ⟨z,_⟩ | ⟨p,hn,⟨xs,z,_⟩ | ⟨xs,z,_⟩⟩
      ·subst z;exact k _ _ _ ρ2 F2 Ls2 [] (.bl c) w3' s3' q3
      ·subst z;exact k _ _ _ ρ2 F2 Ls2 [] (.bl c) (w3'.laid hn) (s3'.trans (Step.laid hn)) q3
      ·subst z;exact k _ _ _ ρ2 F2 Ls2 [] (.bl c) (w3'.laid hn) (s3'.trans (Step.laid hn)) q3
     cases e'
     exact ⟨w',rfl,rr⟩
    exact FP t3
  cases e'
  exact ⟨x,.int j,rfl,rr⟩
 refine ie (fun x H1 t1=>?_) (dM t)
 refine ie (fun y H2 t2=>?_) (dM t1)
 obtain ⟨F,ρ,Ls,R,Qd,w,q,k⟩:=t2
 obtain ⟨x',y',e',rr⟩:=k [] H2 [] ρ F Ls [] .nil w Step.refl q
 cases e'
 exact rr
theorem Dm {op op':CmpOp} (ho:OpR X (compareOp op) r) (ho':OpR X (compareOp op') r') (hg:cN X.K (r2 r) g) (hg':cN X.K (r2 r') g') (ha:SO X a o1) (hb:SO X b o2) (hc:SO X c o3)
  (hm:lastMarks [op,op'] [b,c]=false:=by with_unfolding_all rfl):SE X (.Compare a [op,op'] [b,c] pos) (sZ g g' o1 o2 o3):=
 (Ni ho ho' ha hb hc hm).wk fun σ H Q h=>OJ hg hg' h
end
theorem Vi {K:PySem.W.Frag} {sf:dg} {H:Hp} {a:Addr} {ns:List Int} (hO:Only H) (hS:SqL K H a (ns.map V.int)) (h:sf [.scr ns] fun r _=>r = .bl true) {E:XK}:bj K 1 false sf [.ref a] H (fun v _=>v = .bl true) E:=by
 have sc:uT K H a ns:=by
  rcases hS with h | h
  ·rcases h with h | ⟨o,h⟩
   ·rcases hO a with z | ⟨o,xs,z⟩
    ·rw [h] at z;cases z
    ·rw [h] at z;cases z
   ·exact .inl ⟨o,h⟩
  ·exact .inr h
 refine ⟨rfl,fun _=>False,[.scr ns],fun _=>[],[],_,?_,fun _ _=>rfl,h,fun v H' r x F' Ls' Lr rr _ _ e=>?_⟩
 ·exact {
   len:=rfl
   sl:=fun i d e=>by
    cases i with
    | zero=>simp at e;subst e;exact ⟨_,rfl,.scr sc⟩
    | succ i=>simp at e
   em:=fun _ _=>rfl
   nd:=fun _=>List.nodup_nil
   dj:=fun _ _ _ h _=>absurd h (by simp)
   rd:=List.nodup_nil
   rj:=fun _ _ h=>absurd h (by simp)
   nf:=fun _ _ h=>absurd h (by simp)
   nr:=fun _ h=>absurd h (by simp)
   tr:=fun _ h=>absurd h (by simp)
   ft:=fun _ h=>h.elim }
 ·subst e
  exact rr.isBl
theorem Pq {l:PySem.W.OpenLaw} {q:Program} {loose:List Str} {XP:(Str->Option Value)->Heap->Prop} {YP:World->Heap->Prop} {d:DefRec} {K:Params->PySem.W.Frag} {k:Nat} {x:Str} {sf:dg} (hn:l.most=some 63) (hdf:d.params.defaults=[]) (himp:importsNone q=true)
  (hr:Room k callerA) (hY:∀ (w:World) (h:Heap),YP w h->(K w.params).In h) (hs:∀ ns:List Int,ns.length<=63->sf [.scr ns] fun r _=>r = .bl true)
  (F:∀ (w:World) (mg:Str->Option Value) (fa:Addr) (h:Heap),(K w.params).In h->h.Ns mainGlobals mg->mg d.name=some (.ref fa) ->
   ∃ fd:FuncData,(∀ (s:Shared) (u:Value),PySem.BindsTo s fd ⟨[u],[]⟩ [(x,u)]) ∧ ∀ base:Heap,(K w.params).In base->base.Ns mainGlobals mg->FnOk l.prog w (K w.params) mg base CX0 k fa fd [x] (bj (K w.params) 1 false sf)) :
  PySem.W.WalkO q loose XP YP l.row.toRowW d [] (fun f vs=>PySem.call f vs):=
 L2.SM (n:=63) (k:=k) (x:=x) (CX:=fun _=>CX0) (sp:=fun w=>bj (K w.params) 1 false sf) hn (by decide) hdf himp hr hY F (fun _ _ a ns hl hO hS=>Vi hO hS (hs ns hl)) fun _ _ _ _ _ z=>z
theorem Fun.sem {P:Program} {w:World} {K:PySem.W.Frag} {mg:Str->Option Value} {base:Heap} {x:Str} {st:Stmt} {f:Addr} {fd:FuncData} {ps N:List Str} {k:Nat} {io:Bool} {b:cD} (F:Fun K x x st f fd) (S:FnScope N ps (aL st)) (ht:P.given.tree=none)
  (hb:∀ (X:Cx) (cdv:Value) (f:Addr) (A:Around) (outer:List Env) (s:Shared) (H:Hp) (E:XK),X=(ul CX0 P w K mg base N x (aL st) f cdv A outer s H E).nox->Cc X k->SL X (kpF io) (gF st) b) :
  FnOk P w K mg base CX0 (k+1) f fd ps (bj K ps.length io (fnS ps.length (N.length - ps.length) io b)):=by
 obtain ⟨oc,od,kV,doc,pm,an,cdv,ct,osl,rfl,lk,hcd⟩:=F.ex
 refine Lq lk hcd S fun A outer s H E hr=>?_
 have hc:Cc (ul CX0 P w K mg base N x (aL st) f cdv A outer s H E).nox k:=⟨rfl,hr,ht,⟨_,_,rfl,S.gen,S.co,rfl,rfl⟩⟩
 exact PSs.nox (hb _ cdv f A outer s H E rfl hc)
end L2
namespace L2
open PySem PySem.Spec PyProof.Rows
def pN:List D->Option D
 | [.int i,.int j]=>some (.int (i - j))
 | _=>none
def lV:List D->Option D
 | [.int i,.int j]=>if j=0 then none else some (.int (i.fdiv j))
 | _=>none
def kW:List D->Option D
 | [.int i,.int j]=>if j=0 then none else some (.int (i.fmod j))
 | _=>none
def um:List D->Option D
 | [.int i,.int j]=>if (decide (0<=j)&&decide (j<=1000000)&&decide (i.natAbs<2 ^ 64))=true then some (.int (i ^ j.toNat)) else none
 | _=>none
def vg:List D->Option D
 | [.int i]=>some (.int (-i))
 | _=>none
def dLt:List D->Option D
 | [.int i,.int j]=>some (.bl (decide (i<j)))
 | _=>none
def dLe:List D->Option D
 | [.int i,.int j]=>some (.bl (decide (i<=j)))
 | _=>none
def dGt:List D->Option D
 | [.int i,.int j]=>some (.bl (decide (j<i)))
 | _=>none
def dGe:List D->Option D
 | [.int i,.int j]=>some (.bl (decide (j<=i)))
 | _=>none
section
variable {K:PySem.W.Frag}
theorem qI {gv:Int->Int->V} {gd:Int->Int->D} {g:List D->Option D} (hg:∀ ds f,g ds=some f -> ∃ i j,ds=[.int i,.int j]∧f=gd i j) (hf:∀ i j,(gd i j).flat=some (gv i j)):cN K (r2 (rI0 gv)) g:=by
 intro F H vs ds f Q r e q
 obtain ⟨i,j,rfl,rfl⟩:=hg ds f e
 obtain ⟨x,y,L,M,rfl,r1,r2⟩:=r.two
 cases r1.isInt;cases r2.isInt
 exact ⟨_,_,rfl,_,_,rfl,rfl,q _ _ _ (.ofFlat (hf i j))⟩
theorem vp {C:Int->Int->Prop} {gv:Int->Int->V} {gd:Int->Int->D} {g:List D->Option D} (hg:∀ ds f,g ds=some f -> ∃ i j,ds=[.int i,.int j]∧f=gd i j∧C i j) (hf:∀ i j,(gd i j).flat=some (gv i j)):cN K (r2 (rI C gv)) g:=by
 intro F H vs ds f Q r e q
 obtain ⟨i,j,rfl,rfl,c⟩:=hg ds f e
 obtain ⟨x,y,L,M,rfl,r1,r2⟩:=r.two
 cases r1.isInt;cases r2.isInt
 exact ⟨_,_,rfl,_,_,rfl,rfl,c,q _ _ _ (.ofFlat (hf i j))⟩
theorem iI:cN K (r2 (rI0 fun i j=>.int (i - j))) pN:=qI (gd:=fun i j=>.int (i - j)) (fun ds f e=>by unfold pN at e;split at e <;> cases e;exact ⟨_,_,rfl,rfl⟩) fun _ _=>rfl
theorem uy:cN K (r2 (rI0 fun i j=>.bl (decide (i<j)))) dLt:=qI (gd:=fun i j=>.bl (decide (i<j))) (fun ds f e=>by unfold dLt at e;split at e <;> cases e;exact ⟨_,_,rfl,rfl⟩) fun _ _=>rfl
theorem ux:cN K (r2 (rI0 fun i j=>.bl (decide (i<=j)))) dLe:=qI (gd:=fun i j=>.bl (decide (i<=j))) (fun ds f e=>by unfold dLe at e;split at e <;> cases e;exact ⟨_,_,rfl,rfl⟩) fun _ _=>rfl
theorem Gp:cN K (r2 (rI0 fun i j=>.bl (decide (j<i)))) dGt:=qI (gd:=fun i j=>.bl (decide (j<i))) (fun ds f e=>by unfold dGt at e;split at e <;> cases e;exact ⟨_,_,rfl,rfl⟩) fun _ _=>rfl
theorem Qj:cN K (r2 (rI0 fun i j=>.bl (decide (j<=i)))) dGe:=qI (gd:=fun i j=>.bl (decide (j<=i))) (fun ds f e=>by unfold dGe at e;split at e <;> cases e;exact ⟨_,_,rfl,rfl⟩) fun _ _=>rfl
theorem iy:cN K (r2 (rI (fun _ j=>j≠0) fun i j=>.int (i.fdiv j))) lV:=vp (gd:=fun i j=>.int (i.fdiv j)) (fun ds f e=>by
 unfold lV at e
 split at e
 ·split at e
  ·cases e
  ·cases e;exact ⟨_,_,rfl,rfl,by assumption⟩
 ·cases e) fun _ _=>rfl
theorem fG:cN K (r2 (rI (fun _ j=>j≠0) fun i j=>.int (i.fmod j))) kW:=vp (gd:=fun i j=>.int (i.fmod j)) (fun ds f e=>by
 unfold kW at e
 split at e
 ·split at e
  ·cases e
  ·cases e;exact ⟨_,_,rfl,rfl,by assumption⟩
 ·cases e) fun _ _=>rfl
theorem oE:cN K (r2 (rI Xa fun i j=>.int (i ^ j.toNat))) um:=vp (gd:=fun i j=>.int (i ^ j.toNat)) (fun ds f e=>by
 unfold um at e
 split at e
 ·split at e
  ·rename_i h
   cases e
   rw [Bool.and_eq_true,Bool.and_eq_true,decide_eq_true_eq,decide_eq_true_eq,decide_eq_true_eq] at h
   exact ⟨_,_,rfl,rfl,h.1.1,h.1.2,h.2⟩
  ·cases e
 ·cases e) fun _ _=>rfl
theorem oA:cN K (fun vs H Q=>∃ x,vs=[x]∧rU (fun i=>.int (-i)) x H Q) vg:=by
 intro F H vs ds f Q r e q
 unfold vg at e
 split at e
 ·cases e
  obtain ⟨x,L,rfl,r1⟩:=r.one
  cases r1.isInt
  exact ⟨_,rfl,_,rfl,q _ _ _ (.ofFlat rfl)⟩
 ·cases e
end
theorem goN (is:List Nat):∀ g∈is.map gN,∀ d ρ Q,g d ρ Q -> ∃ ρ',Q ρ':=fun g hg d ρ Q h=>by
 obtain ⟨i,_,rfl⟩:=List.mem_map.mp hg
 exact ⟨_,h⟩
def ndB:List Str->Bool
 | []=>true
 | x :: xs=>!(xs.any fun y=>x==y)&&ndB xs
theorem dh:∀ {xs:List Str},ndB xs=true->xs.Nodup
 | [],_=>List.nodup_nil
 | x :: xs,h=>by
  rw [ndB,Bool.and_eq_true] at h
  refine List.nodup_cons.mpr ⟨fun m=>?_,dh h.2⟩
  have:(xs.any fun y=>x==y)=true:=List.any_eq_true.mpr ⟨x,m,by simp⟩
  rw [this] at h
  cases h.1
def Bf (osc:List (Str×NameKind)) (N:List Str) (scope:Scope) (own:List Str) (fr:List Nat):Bool:=
 (match scope.kind with | .function=>true | _=>false)&&ndB (scope.names.map (·.1))&&(scope.names.all fun y=>match y.2 with | .free=>(match osc.lookup y.1 with | some .cell=>true | some .free=>true | _=>false) | _=>true) &&
 (fr.all fun j=>decide (j<N.length)&&(match scope.names.lookup (N.getD j "") with | some .free=>true | _=>false))&&ndB (own++fr.map fun j=>N.getD j "")
theorem CScope.of {X:Cx} {scope:Scope} {own:List Str} {fr:List Nat} (h:Bf X.env.scope.names X.N scope own fr=true):CScope X scope own fr:=by
 unfold Bf at h
 rw [Bool.and_eq_true,Bool.and_eq_true,Bool.and_eq_true,Bool.and_eq_true] at h
 obtain ⟨⟨⟨⟨h1,h2⟩,h3⟩,h4⟩,h5⟩:=h
 have keys:=dh h2
 exact {
  kind:=by
   revert h1
   cases scope.kind <;> simp
  keys:=keys
  names:=fun y hy e=>by rw [← e];exact gJ keys hy
  free:=fun n hn=>by
   have:=List.all_eq_true.mp h3 _ hn
   show X.env.scope.names.lookup n=some .cell∨X.env.scope.names.lookup n=some .free
   revert this
   simp only
   split
   ·rename_i e;intro _;exact .inl e
   ·rename_i e;intro _;exact .inr e
   ·intro z;cases z
  frs:=fun j hj=>by
   have:=List.all_eq_true.mp h4 _ hj
   rw [Bool.and_eq_true,decide_eq_true_eq] at this
   refine ⟨this.1,?_⟩
   have z:=this.2
   revert z
   split
   ·rename_i e;intro _;exact e
   ·intro z;cases z
  nd:=dh h5 }
theorem DR:bootBuiltins "abs" = some (.builtin "abs"):=by first | exact PyProof.Rows.boot_abs | exact PySem.boot_abs
theorem DX:bootBuiltins "min" = some (.builtin "min"):=by first | exact PyProof.Rows.boot_min | exact PySem.boot_min
theorem JV:bootBuiltins "max" = some (.builtin "max"):=by first | exact PyProof.Rows.boot_max | exact PySem.boot_max
theorem ju:bootBuiltins "len" = some (.builtin "len"):=by first | exact PyProof.Rows.boot_len | exact PySem.boot_len
theorem dR:bootBuiltins "isinstance" = some (.builtin "isinstance"):=by first | exact PyProof.Rows.boot_isinstance | exact PySem.boot_isinstance
theorem Uh:bootBuiltins "all" = some (.builtin "all"):=by first | exact PyProof.Rows.boot_all | exact PySem.boot_all
theorem Ui:bootBuiltins "any" = some (.builtin "any"):=by first | exact PyProof.Rows.boot_any | exact PySem.boot_any
theorem DW:bootBuiltins "int" = some (.type "int"):=by first | exact PyProof.Rows.boot_int | exact PySem.boot_int
theorem yU:bootBuiltins "bool" = some (.type "bool"):=by first | exact PyProof.Rows.boot_bool | exact PySem.boot_bool
theorem uX:bootBuiltins "tuple" = some (.type "tuple"):=by first | exact PyProof.Rows.boot_tuple | exact PySem.boot_tuple
theorem qD:bootBuiltins "list" = some (.type "list"):=by first | exact PyProof.Rows.boot_list | exact PySem.boot_list
end L2
namespace L2
open PySem PySem.Spec PyProof.Rows
def Ms (i:Nat) (ρ ρ':En) (r:D):Prop:=r.clean=true ∧ ∀ (j:Nat) (dj:D),j≠i -> ρ'[j]? = some (some dj)->dj.clean=true∨(dj.sh=true ∧ ρ[j]? = some (some dj))
def Tz (i:Nat) (s:bU):bU:=fun ρ Q=>∃ d,ρ[i]? = some (some d)∧s (ρ.set i (some d.fz)) fun r ρ'=>(Ms i ρ ρ' r∧Q r (ρ'.set i (some d)))∨Q r ρ'
def vz (ρ : En):List Nat->En
 | []=>ρ
 | j :: js=>(vz ρ js).set j none
def ue (js:List Nat) (b:cD):cD:=fun ρ E=>b (vz ρ js) E
theorem WS.drop {K:PySem.W.Frag} {F:Addr->Prop} {H:Hp} {σ : St} {ρ : En} {Ls:Nat->List Addr} {R:List Addr} (j:Nat) (w:WS K F H σ ρ Ls R):WS K F H σ (ρ.set j none) (kY Ls j []) R where
 len:=by rw [List.length_set];exact w.len
 sl:=fun i d e=>by
  by_cases c:i=j
  ·subst c
   rw [List.getElem?_set] at e
   simp at e
  ·rw [List.getElem?_set_ne (Ne.symm c)] at e
   rw [bB c];exact w.sl i d e
 em:=fun i hi=>by
  by_cases c:i=j
  ·rw [c,aY]
  ·rw [bB c]
   exact w.em i fun d e=>hi d (by rw [List.getElem?_set_ne (Ne.symm c)];exact e)
 nd:=fun i=>by
  by_cases c:i=j
  ·rw [c,aY];exact List.nodup_nil
  ·rw [bB c];exact w.nd i
 dj:=fun i k a h1 h2=>by
  by_cases c:i=j
  ·rw [c,aY] at h1;simp at h1
  ·by_cases c2:k=j
   ·rw [c2,aY] at h2;simp at h2
   ·rw [bB c] at h1;rw [bB c2] at h2;exact w.dj i k a h1 h2
 rd:=w.rd
 rj:=fun i a m=>by
  by_cases c:i=j
  ·rw [c,aY] at m;simp at m
  ·rw [bB c] at m;exact w.rj i a m
 nf:=fun i a m=>by
  by_cases c:i=j
  ·rw [c,aY] at m;simp at m
  ·rw [bB c] at m;exact w.nf i a m
 nr:=w.nr
 tr:=w.tr
 ft:=w.ft
theorem Step.drop {F:Addr->Prop} {H:Hp} {Ls:Nat->List Addr} (j:Nat):Step F H Ls F H (kY Ls j []) []:=⟨fun _ _ e _=>e,fun _ h=>h,fun i a m=>by
 by_cases c:i=j
 ·rw [c,aY] at m;simp at m
 ·rw [bB c] at m;exact .inl ⟨i,m⟩,fun a h=>absurd h (by simp)⟩
theorem WS.drops {K:PySem.W.Frag} {F:Addr->Prop} {H:Hp} {σ : St} {ρ : En} {Ls:Nat->List Addr} {R:List Addr} (w:WS K F H σ ρ Ls R):∀ js:List Nat,∃ Ls',WS K F H σ (vz ρ js) Ls' R∧Step F H Ls F H Ls' []
 | []=>⟨Ls,w,Step.refl⟩
 | j :: js=>let ⟨L1,w1,s1⟩:=WS.drops w js;⟨_,w1.drop j,s1.trans (Step.drop j)⟩
theorem Af {X:Cx} {kp:Nat->Bool} {st:List Stmt} {b:cD} (js:List Nat) (h:SL X kp st b):SL X kp st (ue js b):=
 PSs.wk h fun D σ H ⟨F,ρ,Ls,R,E,w,q,p⟩=>by
  obtain ⟨L1,w1,s1⟩:=w.drops js
  exact ⟨F,_,L1,R,E,w1,q,p.step s1 fun _ _=>rfl⟩
end L2
namespace Z
open PySem L2
def dU:dg:=fnS 2 0 false
 (aR (tu (tB' (sDo dNe [.nam 1,.val (sC (.int 0))])) (Jw 0 1 [.nam 1,.val (sDo kW [.nam 0,.nam 1])]))
 (cT (sDo Ed [.nam 0])))
def dm:dg:=fnS 2 1 false
 (aR (sIf (tB' (sDo dEq [.nam 1,.val (sC (.int 0))]))
 (lQ)
 (eO))
 (aR (bK 2 (aV 2 dU [.nam 0,.nam 1]))
 (aR (sIf (tB' (sDo dLt [.nam 1,.val (sC (.int 0))]))
 (bK 2 (sDo vg [.nam 2]))
 (eO))
 (cT (gH [.val (sDo lV [.nam 0,.nam 2]),.val (sDo lV [.nam 1,.nam 2])])))))
def jF:dg:=fnS 2 0 false
 (cT (aV 2 dm [.val (sDo pN [.val (sDo dH [.val (aW 0 (.val (sC (.int 0)))),.val (aW 1 (.val (sC (.int 1))))]),.val (sDo dH [.val (aW 1 (.val (sC (.int 0)))),.val (aW 0 (.val (sC (.int 1))))])]),.val (sDo dH [.val (aW 0 (.val (sC (.int 1)))),.val (aW 1 (.val (sC (.int 1))))])]))
def nF:dg:=fnS 2 0 false
 (cT (aV 2 dm [.val (sDo dH [.val (aW 0 (.val (sC (.int 0)))),.val (aW 1 (.val (sC (.int 0))))]),.val (sDo dH [.val (aW 0 (.val (sC (.int 1)))),.val (aW 1 (.val (sC (.int 1))))])]))
def wY:dg:=fnS 2 0 false
 (cT (aV 2 dm [.val (sDo dH [.val (aW 0 (.val (sC (.int 0)))),.val (aW 1 (.val (sC (.int 1))))]),.val (sDo dH [.val (aW 0 (.val (sC (.int 1)))),.val (aW 1 (.val (sC (.int 0))))])]))
def gP:dg:=fnS 2 1 false
 (aR (il (mW (.nam 1) (.val (sDo lL [.nam 0]))) (gN 2)
 (sIf (tB' (sDo dNe [.val (sDo dIx [.val (aW 0 (.nam 2)),.nam 1]),.val (gH [.val (sC (.int 0)),.val (sC (.int 1))])]))
 (nU 2)
 (eO)))
 (cT (sC .non)))
def jX:dg:=fnS 2 0 false
 (cT (cO (gq (cC 0)) 1 [0,1] (gN 0) (fu) (aV 2 wY [.nam 0,.val (aW 1 (.nam 2))])))
def gQ:dg:=fnS 3 0 false
 (cT (cO (pZ (cC 0) (cC 1)) 2 [0,2] (gT [gN 0,gN 1]) (fu) (aV 2 jF [.nam 0,.val (aV 2 nF [.val (aW 2 (.nam 3)),.nam 1])])))
def my:dg:=fnS 2 1 false
 (aR (bK 2 (aV 2 jX [.val (aW 0 (.nam 1)),.nam 1]))
 (cT (cO (zr (cC 0)) 2 [1,2] (gT [gN 0,gN 1]) (fu) (RG (tB' (sDo dEq [.nam 0,.nam 2])) (cC 3) (aV 3 gQ [.nam 1,.nam 3,.nam 2])))))
def oU:dg:=fnS 2 3 false
 (aR (bK 2 (cO (pZ (cC 0) (cC 1)) 2 [] (gT [gN 0,gN 1]) (fu) (sDo cI [.val (sDo jC [.nam 0]),.val (fH [.val (cC 1)])])))
 (aR (il (cZ (.val (sDo lL [.nam 0]))) (gN 3)
 (aR (bK 4 (aV 2 gP [.nam 2,.nam 3]))
 (aR (sIf (tB' (sDo Qg [.nam 4,.val (sC .non)]))
 (cT (sC .non))
 (eO))
 (aR (iM (lO lB 2 [.val (cC 3),.val (lO vY 2 [.val (cC 4)])]))
 (bK 2 (aV 2 my [.nam 2,.nam 3]))))))
 (cT (cO (gq (cC 2)) 1 [] (gN 0) (fu) (aW 0 (.val (sDo vg [.val (sC (.int 1))])))))))
def jW:dg:=fnS 2 3 false
 (aR (bK 2 (sC (.int 0)))
 (aR (sIf (tB' (sDo dLt [.nam 1,.val (sDo lL [.nam 0])]))
 (bK 2 (sDo Ed [.val (aW 0 (.nam 1))]))
 (eO))
 (aR (bK 3 (sDo kW [.val (sDo um [.val (sDo cI [.val (sDo cI [.val (sDo kW [.nam 2,.val (sC (.int 2147483629))]),.val (sDo dH [.val (sC (.int 104729)),.nam 1])]),.val (sC (.int 17))]),.val (sC (.int 5))]),.val (sC (.int 2147483647))]))
 (aR (il (cZ (.val (sDo Br [.val (sDo lL [.nam 0]),.val (sC (.int 60))]))) (gN 4)
 (bK 3 (sDo kW [.val (sDo cI [.val (sDo cI [.val (sDo dH [.nam 3,.val (sC (.int 48271))]),.val (sDo dH [.val (sDo kW [.val (aW 0 (.nam 4)),.val (sC (.int 2147483587))]),.val (sDo cI [.nam 4,.val (sC (.int 3))])])]),.nam 4]),.val (sC (.int 2147483629))])))
 (aR (sIf (tB' (sDo dLt [.nam 2,.val (sDo um [.val (sC (.int 10)),.val (sC (.int 18))])]))
 (bK 2 (sC (.int 0)))
 (eO))
 (cT (fH [.val (cC 2),.val (cC 3)])))))))
def bh:dg:=fnS 2 1 true
 (aR (sIf (tB' (sDo dGt [.val (aW 0 (.val (sC (.int 0)))),.val (sC (.int 0))]))
 (aR (bK 2 (sDo kW [.val (aW 0 (.val (sC (.int 0)))),.nam 1]))
 (aR (jV 0 (sDo lV [.val (aW 0 (.val (sC (.int 0)))),.nam 1]) (.val (sC (.int 0))))
 (nU 2)))
 (eO))
 (aR (jV 0 (sDo kW [.val (sDo cI [.val (sDo dH [.val (aW 0 (.val (sC (.int 1)))),.val (sC (.int 48271))]),.val (sC (.int 7919))]),.val (sC (.int 2147483647))]) (.val (sC (.int 1))))
 (cT (sDo kW [.val (sDo kW [.val (sDo dH [.val (sDo lV [.val (sDo kW [.val (sDo um [.val (aW 0 (.val (sC (.int 1)))),.val (sC (.int 3))]),.val (sC (.int 2147483587))]),.val (sC (.int 7))]),.val (sC (.int 69621))]),.val (sC (.int 1073741789))]),.nam 1]))))
def eY:dg:=fnS 2 0 false
 (aR (tu (tB' (sDo dNe [.nam 1,.val (sC (.int 0))])) (Jw 0 1 [.nam 1,.val (sDo kW [.nam 0,.nam 1])]))
 (cT (sDo Ed [.nam 0])))
def bR:dg:=fnS 2 1 false
 (aR (bK 2 (aV 2 eY [.nam 0,.nam 1]))
 (aR (sIf (tB' (sDo dLt [.nam 1,.val (sC (.int 0))]))
 (bK 2 (sDo pN [.val (sC (.int 0)),.nam 2]))
 (eO))
 (cT (gH [.val (sDo lV [.nam 0,.nam 2]),.val (sDo lV [.nam 1,.nam 2])]))))
def fO:dg:=fnS 2 0 false
 (cT (aV 2 bR [.val (sDo cI [.val (sDo dH [.val (aW 0 (.val (sC (.int 0)))),.val (aW 1 (.val (sC (.int 1))))]),.val (sDo dH [.val (aW 1 (.val (sC (.int 0)))),.val (aW 0 (.val (sC (.int 1))))])]),.val (sDo dH [.val (aW 0 (.val (sC (.int 1)))),.val (aW 1 (.val (sC (.int 1))))])]))
def dz:dg:=fnS 2 0 false
 (cT (aV 2 bR [.val (sDo dH [.val (aW 0 (.val (sC (.int 0)))),.val (aW 1 (.val (sC (.int 0))))]),.val (sDo dH [.val (aW 0 (.val (sC (.int 1)))),.val (aW 1 (.val (sC (.int 1))))])]))
end Z
namespace L2
open PySem PySem.Spec PyProof.Rows
def aX {α : Type} (o:Option α) (k : α -> Prop):Prop:=∃ a,o=some a∧k a
theorem DN {α : Type} (a : α) (k : α -> Prop):aX (some a) k=k a:=by simp [aX]
theorem DK {α : Type} (k : α -> Prop):aX none k=False:=by simp [aX]
def gn (a b:Prop):Prop:=a∧b
theorem Ij (b:Prop):gn True b=b:=by simp [gn]
theorem DG (b:Prop):gn False b=False:=by simp [gn]
def lM (c:Bool) (a b:Prop):Prop:=if c=true then a else b
theorem yF (a b:Prop):lM true a b=a:=by simp [lM]
theorem vP (a b:Prop):lM false a b=b:=by simp [lM]
theorem Qu {c:Prop} [Decidable c] {a b:Prop} (h1:c->a) (h2:¬ c->b):lM (decide c) a b:=by
 unfold lM
 by_cases h:c
 ·rw [if_pos (by simpa using h)];exact h1 h
 ·rw [if_neg (by simpa using h)];exact h2 h
theorem UT {c:Bool} {a b:Prop} (h1:c=true->a) (h2:c=false->b):lM c a b:=by
 cases c with
 | true=>rw [yF];exact h1 rfl
 | false=>rw [vP];exact h2 rfl
def Ax (f:dg) (ds:List D) (Q:D->Option D->Prop):Prop:=f ds Q
def slot:En->Nat->Option D
 | [],_=>none
 | x :: _,0=>x
 | _ :: r,n+1=>slot r n
theorem cV:∀ {ρ : En} {i:Nat} {d:D},ρ[i]? = some (some d)↔slot ρ i=some d
 | [],i,d=>by simp [slot]
 | x :: r,0,d=>by simp [slot]
 | x :: r,i+1,d=>by simp only [List.getElem?_cons_succ,slot];exact cV
theorem xG (x:Option D) (r:En):slot (x :: r) 0=x:=rfl
theorem xH (x:Option D) (r:En) (n:Nat):slot (x :: r) (n+1)=slot r n:=rfl
theorem sS (ρ : En) (i:Nat):AD.get ρ (.nam i)=slot ρ i:=by
 show (ρ[i]?).getD none=_
 cases h : ρ[i]? with
 | none=>
  cases q:slot ρ i with
  | none=>rfl
  | some d=>rw [cV.mpr q] at h;cases h
 | some o=>
  cases o with
  | none=>
   cases q:slot ρ i with
   | none=>rfl
   | some d=>rw [cV.mpr q] at h;cases h
  | some d=>rw [cV.mp h];rfl
theorem yC (ρ : En) (d:D):AD.get ρ (.val d)=some d:=rfl
theorem jc (ρ : En):bG ρ []=some []:=rfl
def yr (o:Option D) (os:Option (List D)):Option (List D):=match o,os with
 | some d,some ds=>some (d :: ds)
 | _,_=>none
theorem vd (d:D) (ds:List D):yr (some d) (some ds)=some (d :: ds):=rfl
theorem eH (ρ : En) (a:AD) (as:List AD):bG ρ (a :: as)=yr (a.get ρ) (bG ρ as):=by
 rw [bG];unfold yr;rfl
section
variable (ρ : En) (Q:D->En->Prop) (E:EndD) (QB:Bool->En->Prop)
theorem Xm (d:D):sC d ρ Q=Q d ρ:=rfl
theorem Lg (i:Nat):cC i ρ Q=aX (slot ρ i) fun d=>lM d.sh (Q d ρ) (Q d.fz (ρ.set i (some d.fz))):=by
 simp only [cC,aX,cV,lM]
theorem jP (K:List AD->En->Prop):eQ [] ρ K=K [] ρ:=rfl
theorem fQ (s:bU) (os:List Opd) (K:List AD->En->Prop):eQ (.val s :: os) ρ K=s ρ fun d ρ1=>eQ os ρ1 fun as ρ2=>K (.val d :: as) ρ2:=rfl
theorem jO (i:Nat) (os:List Opd) (K:List AD->En->Prop):eQ (.nam i :: os) ρ K=aX (slot ρ i) fun _=>eQ os ρ fun as ρ2=>K (.nam i :: as) ρ2:=by
 simp only [eQ,aX,cV,exists_and_right]
theorem Gy (g:List D->Option D) (os:List Opd):sDo g os ρ Q=eQ os ρ fun as ρ'=>aX (bG ρ' as) fun ds=>aX (g ds) fun f=>Q f ρ':=by
 simp only [sDo,aX]
 congr 1
 funext as ρ'
 simp only [exists_and_left]
theorem KZ (os:List Opd):gH os ρ Q=eQ os ρ fun as ρ'=>aX (bG ρ' as) fun ds=>gn (cQ ρ' as=true) (gn (ds.length<=sizeLine) (Q (.tup ds) ρ')):=by
 simp only [gH,aX,gn]
theorem KD (os:List Opd):fH os ρ Q=eQ os ρ fun as ρ'=>aX (bG ρ' as) fun ds=>gn (cQ ρ' as=true) (gn (ds.length<=sizeLine) (Q (.lst true ds) ρ')):=by
 simp only [fH,aX,gn]
def D.bo:D->Option Bool
 | .bl b=>some b
 | _=>none
theorem Up (s:bU):tB' s ρ QB=s ρ fun d ρ'=>aX d.bo fun b=>QB b ρ':=by
 simp only [tB',aX]
 congr 1
 funext d ρ'
 cases d <;> simp [D.bo]
theorem Ks (t u:fB):Yy t u ρ QB=t ρ fun b ρ'=>lM b (u ρ' QB) (QB false ρ'):=rfl
theorem Tf (t u:fB):Du t u ρ QB=t ρ fun b ρ'=>lM b (QB true ρ') (u ρ' QB):=rfl
theorem KJ (t:fB):kI t ρ QB=t ρ fun b ρ'=>QB (!b) ρ':=rfl
theorem Gv (s u:bU):wX s u ρ Q=s ρ fun d ρ'=>aX d.bo fun b=>lM b (u ρ' Q) (Q (.bl false) ρ'):=by
 simp only [wX,aX,lM]
 congr 1
 funext d ρ'
 cases d <;> simp [D.bo]
theorem KN (s u:bU):RJ s u ρ Q=s ρ fun d ρ'=>aX d.bo fun b=>lM b (Q (.bl true) ρ') (u ρ' Q):=by
 simp only [RJ,aX,lM]
 congr 1
 funext d ρ'
 cases d <;> simp [D.bo]
theorem GK (s:bU):Dj s ρ Q=s ρ fun d ρ'=>aX d.bo fun b=>Q (.bl (!b)) ρ':=by
 simp only [Dj,aX]
 congr 1
 funext d ρ'
 cases d <;> simp [D.bo]
theorem Kz (t:fB) (s u:bU):RG t s u ρ Q=t ρ fun b ρ'=>lM b (s ρ' Q) (u ρ' Q):=rfl
def pP:Option (List D)->Option D
 | some [d]=>some d
 | _=>none
theorem KY (o:Opd):ph o ρ QB=eQ [o] ρ fun as ρ'=>aX (pP (bG ρ' as)) fun d=>aX d.tru fun b=>QB b ρ':=by
 simp only [ph,aX]
 congr 1
 funext as ρ'
 apply propext
 constructor
 ·rintro ⟨d,b,h1,h2,h3⟩
  exact ⟨d,by rw [h1];rfl,b,h2,h3⟩
 ·rintro ⟨d,h1,b,h2,h3⟩
  refine ⟨d,b,?_,h2,h3⟩
  revert h1
  unfold pP
  split
  ·rename_i e;intro z;cases z;exact e
  ·intro z;cases z
theorem pC (n:Nat) (f:dg) (os:List Opd):aV n f os ρ Q=eQ os ρ fun as ρ'=>aX (bG ρ' as) fun ds=>gn (ds.length=n) (Ax f (D.fzs ds) fun r _=>Q r (aft ρ' as r.clean)):=by
 simp only [aV,aX,gn,Ax]
theorem BX (n:Nat) (f:dg) (i:Nat) (os:List Opd):cG n f i os ρ Q=aX (slot ρ i) fun _=>eQ os ρ fun as ρ'=>aX (slot ρ' i) fun d0=>aX (bG ρ' as) fun ds=>
  gn (ds.length+1=n) (gn (i ∉ cz as) (Ax f (d0 :: D.fzs ds) fun r x=>gn ((cQ ρ' as||(r.clean&&clO x))=true) (Q r (ρ'.set i x)))):=by
 unfold cG
 rw [jO]
 simp only [aX,gn,Ax,cV]
 congr 1
 funext a
 congr 1
 congr 1
 funext as ρ'
 apply propext
 constructor
 ·rintro ⟨d0,as',ds,e,h1,h2,h3,h4,h5⟩
  cases e
  exact ⟨d0,h1,ds,h2,h3,h4,h5⟩
 ·rintro ⟨d0,h1,ds,h2,h3,h4,h5⟩
  exact ⟨d0,as,ds,rfl,h1,h2,h3,h4,h5⟩
theorem rm {as:List AD} {kd:D} (h:pP (bG ρ as)=some kd):∃ a,as=[a]∧a.get ρ = some kd:=by
 cases as with
 | nil=>simp [bG,pP] at h
 | cons a r=>
  cases r with
  | nil=>
   refine ⟨a,rfl,?_⟩
   rw [eH,jc] at h
   cases q:a.get ρ with
   | none=>rw [q] at h;simp [yr,pP] at h
   | some d=>rw [q] at h;simp [yr,pP] at h;rw [h]
  | cons b r=>
   rw [eH,eH] at h
   cases q:a.get ρ <;> cases q2:b.get ρ <;> cases q3:bG ρ r <;> simp [q,q2,q3,yr,pP] at h
theorem Hv {a:AD} {kd:D} (h:a.get ρ = some kd):pP (bG ρ [a])=some kd:=by
 rw [eH,jc,h];rfl
def D.intO:D->Option Int
 | .int k=>some k
 | _=>none
theorem lX {d:D} {k:Int}:d.intO=some k↔d = .int k:=by cases d <;> simp [D.intO]
theorem KC (i:Nat) (oi:Opd):aW i oi ρ Q=aX (slot ρ i) fun _=>eQ [oi] ρ fun as ρ'=>aX (slot ρ' i) fun c=>aX (pP (bG ρ' as)) fun kd=>aX kd.intO fun k=>aX (ixF c k) fun p=>Q p.1 (NB ρ' i p.2):=by
 unfold aW
 rw [jO]
 congr 1
 funext _
 congr 1
 funext as ρ'
 apply propext
 simp only [aX,cV]
 constructor
 ·rintro ⟨a,c,k,f,t,e,h1,h2,h3,h4⟩
  cases e
  exact ⟨c,h1,_,Hv ρ' h2,k,rfl,(f,t),h3,h4⟩
 ·rintro ⟨c,h1,kd,h2,k,h3,⟨f,t⟩,h4,h5⟩
  obtain ⟨a,rfl,h6⟩:=rm ρ' h2
  rw [lX.mp h3] at h6
  exact ⟨a,c,k,f,t,rfl,h1,h6,h4,h5⟩
def D.ownO:D->Option (List D)
 | .lst true ds=>some ds
 | _=>none
theorem CZ {d:D} {ds:List D}:d.ownO=some ds↔d = .lst true ds:=by
 cases d with
 | lst o ds'=>cases o <;> simp [D.ownO]
 | _=>simp [D.ownO]
def D.isLst:D->Bool
 | .lst _ _=>true
 | _=>false
theorem KH (g:xR) (i:Nat) (os:List Opd):lO g i os ρ Q=aX (slot ρ i) fun d0=>gn (d0.isLst=true) (eQ os ρ fun as ρ'=>aX (slot ρ' i) fun c=>aX c.ownO fun ds=>aX (bG ρ' as) fun es=>gn (cQ ρ' as=true) (aX (g ds es) fun p=>Q p.2 (ρ'.set i (some (.lst true p.1))))):=by
 unfold lO
 simp only [aX,gn,cV]
 have e:(fun (as:List AD) (ρ':En)=>∃ ds es ds' rd,slot ρ' i=some (.lst true ds)∧bG ρ' as=some es∧cQ ρ' as=true∧g ds es=some (ds',rd)∧Q rd (ρ'.set i (some (.lst true ds')))) =
   fun as ρ'=>∃ a,slot ρ' i=some a ∧ ∃ a_1,a.ownO=some a_1 ∧ ∃ a,bG ρ' as=some a∧cQ ρ' as=true ∧ ∃ a_2,g a_1 a=some a_2∧Q a_2.2 (ρ'.set i (some (.lst true a_2.1))):=by
  funext as ρ'
  apply propext
  constructor
  ·rintro ⟨ds,es,ds',rd,h1,h2,h3,h4,h5⟩
   exact ⟨_,h1,ds,rfl,es,h2,h3,(ds',rd),h4,h5⟩
  ·rintro ⟨c,h1,ds,h2,es,h3,h4,⟨ds',rd⟩,h5,h6⟩
   exact ⟨ds,es,ds',rd,by rw [h1,CZ.mp h2],h3,h4,h5,h6⟩
 rw [e]
 apply propext
 constructor
 ·rintro ⟨⟨o,ds,h1⟩,h2⟩
  exact ⟨_,h1,rfl,h2⟩
 ·rintro ⟨d0,h1,h2,h3⟩
  refine ⟨?_,h3⟩
  cases d0 with
  | lst o ds=>exact ⟨o,ds,h1⟩
  | _=>cases h2
theorem BZ (g g':List D->Option D) (o1 o2 o3:Opd):sZ g g' o1 o2 o3 ρ Q=eQ [o1,o2] ρ fun as ρ1=>aX (match bG ρ1 as with | some [d,.int j]=>some (d,j) | _=>none) fun p=>aX ((g [p.1,.int p.2]).bind D.bo) fun b=>
  lM b (eQ [o3] ρ1 fun as2 ρ2=>aX (pP (bG ρ2 as2)) fun f=>aX ((g' [.int p.2,f]).bind D.bo) fun c=>Q (.bl c) ρ2) (Q (.bl false) ρ1):=by
 have bo:∀ {o:Option D} {b:Bool},o.bind D.bo=some b↔o=some (.bl b):=fun {o b}=>by
  cases o with
  | none=>simp
  | some d=>cases d <;> simp [D.bo]
 unfold sZ
 congr 1
 funext as ρ1
 apply propext
 simp only [aX,lM,bo]
 have two:∀ {p:D×Int},(match bG ρ1 as with | some [d,.int j]=>some (d,j) | _=>none)=some p↔bG ρ1 as=some [p.1,.int p.2]:=fun {p}=>by
  split
  ·rename_i d j e
   constructor
   ·intro z;cases z;exact e
   ·intro z;rw [e] at z;cases z;rfl
  ·rename_i h
   constructor
   ·intro z;cases z
   ·intro z;exact absurd z (h _ _)
 have inner:∀ (j:Int),(eQ [o3] ρ1 fun as2 ρ2=>∃ f c,bG ρ2 as2=some [f]∧g' [.int j,f]=some (.bl c)∧Q (.bl c) ρ2)=(eQ [o3] ρ1 fun as2 ρ2=>∃ f,pP (bG ρ2 as2)=some f ∧ ∃ c,g' [.int j,f]=some (.bl c)∧Q (.bl c) ρ2):=fun j=>by
  congr 1
  funext as2 ρ2
  apply propext
  constructor
  ·rintro ⟨f,c,h1,h2,h3⟩
   exact ⟨f,by rw [h1];rfl,c,h2,h3⟩
  ·rintro ⟨f,h1,c,h2,h3⟩
   obtain ⟨a,rfl,h6⟩:=rm ρ2 h1
   exact ⟨f,c,by rw [eH,jc,h6];rfl,h2,h3⟩
 constructor
 ·rintro ⟨d,j,b,h1,h2,h3⟩
  exact ⟨(d,j),two.mpr h1,b,h2,by rw [← inner];exact h3⟩
 ·rintro ⟨⟨d,j⟩,h1,b,h2,h3⟩
  exact ⟨d,j,b,two.mp h1,h2,by rw [inner];exact h3⟩
theorem Eh (s u:cD):aR s u ρ E=s ρ ⟨fun ρ'=>u ρ' E,E.rt,E.bk,E.ct⟩:=rfl
theorem GJ:eO ρ E=E.nx ρ:=rfl
theorem Ca:lQ ρ E=False:=rfl
theorem BW:Wq ρ E=E.bk ρ:=rfl
theorem Gx:Yq ρ E=E.ct ρ:=rfl
theorem Ky (t:fB) (s u:cD):sIf t s u ρ E=t ρ fun b ρ'=>lM b (s ρ' E) (u ρ' E):=rfl
theorem GC (e:bU):iM e ρ E=e ρ fun _ ρ'=>E.nx ρ':=rfl
theorem KR (e:bU):cT e ρ E=e ρ fun d ρ'=>E.rt d ρ':=rfl
theorem GP:Yr ρ E=E.rt .non ρ:=rfl
theorem GQ (i:Nat):nU i ρ E=aX (slot ρ i) fun d=>E.rt d (ρ.set i none):=by simp only [nU,aX,cV]
theorem zj (i:Nat) (e:bU):bK i e ρ E=e ρ fun d ρ'=>E.nx (ρ'.set i (some d)):=rfl
theorem Ku (g:fX) (e:bU):Jv g e ρ E=e ρ fun d ρ'=>g d ρ' E.nx:=rfl
theorem Th (i:Nat) (d:D) (P:En->Prop):gN i d ρ P=P (ρ.set i (some d)):=rfl
def D.tupO:D->Option (List D)
 | .tup ds=>some ds
 | _=>none
theorem Lp (gs:List fX) (d:D) (P:En->Prop):gT gs d ρ P=aX d.tupO fun ds=>gGo gs ds ρ P:=by
 cases d <;> simp [gT,aX,D.tupO]
theorem vB (P:En->Prop):gGo [] [] ρ P=P ρ:=rfl
theorem tV (g:fX) (gs:List fX) (d:D) (ds:List D) (P:En->Prop):gGo (g :: gs) (d :: ds) ρ P=g d ρ fun ρ'=>gGo gs ds ρ' P:=rfl
def JK:Option (List D)->Option (D×D)
 | some [d,e]=>some (d,e)
 | _=>none
theorem Dw {o:Option (List D)} {p:D×D}:JK o=some p↔o=some [p.1,p.2]:=by
 unfold JK
 split
 ·constructor
  ·intro z;cases z;rfl
  ·intro z;cases z;rfl
 ·rename_i h
  constructor
  ·intro z;cases z
  ·intro z;exact absurd z (h _ _)
theorem KQ (i j:Nat) (os:List Opd):Jw i j os ρ E=eQ os ρ fun as ρ'=>aX (JK (bG ρ' as)) fun p=>gn (cQ ρ' as=true) (E.nx ((ρ'.set i (some p.1)).set j (some p.2))):=by
 simp only [Jw,aX,gn,Dw]
 congr 1
 funext as ρ'
 apply propext
 constructor
 ·rintro ⟨d,e,h1,h2,h3⟩;exact ⟨(d,e),h1,h2,h3⟩
 ·rintro ⟨⟨d,e⟩,h1,h2,h3⟩;exact ⟨d,e,h1,h2,h3⟩
theorem Kv (f:Int->Int->Int) (i:Nat) (se:bU):Yp f i se ρ E=aX ((slot ρ i).bind D.intO) fun n=>se ρ fun d ρ'=>aX d.intO fun m=>E.nx (ρ'.set i (some (.int (f n m)))):=by
 simp only [Yp,aX,cV,lX,Option.bind_eq_some_iff]
 apply propext
 constructor
 ·rintro ⟨n,h1,h2⟩;exact ⟨n,⟨_,h1,rfl⟩,h2⟩
 ·rintro ⟨n,⟨d,h1,h2⟩,h3⟩;exact ⟨n,by rw [h1,h2],h3⟩
theorem Cd (i:Nat) (se:bU) (oi:Opd):jV i se oi ρ E=aX (slot ρ i) fun _=>se ρ fun d ρ1=>eQ [oi] ρ1 fun as ρ'=>aX (pP (bG ρ' as)) fun kd=>aX kd.intO fun k=>aX (slot ρ' i) fun c=>aX c.ownO fun ds=>aX (ixN ds.length k) fun j=>E.nx (ρ'.set i (some (.lst true (ds.set j d)))):=by
 unfold jV
 simp only [fQ]
 apply propext
 have e:(fun (d:D) (ρ1:En)=>eQ [oi] ρ1 fun as ρ2=>∃ d_1 a ds k j,AD.val d :: as=[.val d_1,a]∧a.get ρ2=some (.int k) ∧ ρ2[i]? = some (some (.lst true ds))∧ixN ds.length k=some j∧E.nx (ρ2.set i (some (.lst true (ds.set j d_1))))) =
   fun d ρ1=>eQ [oi] ρ1 fun as ρ'=>aX (pP (bG ρ' as)) fun kd=>aX kd.intO fun k=>aX (slot ρ' i) fun c=>aX c.ownO fun ds=>aX (ixN ds.length k) fun j=>E.nx (ρ'.set i (some (.lst true (ds.set j d)))):=by
  funext d ρ1
  congr 1
  funext as ρ'
  apply propext
  simp only [aX]
  constructor
  ·rintro ⟨d1,a,ds,k,j,h0,h1,h2,h3,h4⟩
   cases h0
   exact ⟨_,Hv ρ' h1,k,rfl,_,cV.mp h2,ds,rfl,j,h3,h4⟩
  ·rintro ⟨kd,h1,k,h2,c,h3,ds,h4,j,h5,h6⟩
   obtain ⟨a,rfl,h7⟩:=rm ρ' h1
   exact ⟨d,a,ds,k,j,rfl,by rw [h7,lX.mp h2],by rw [cV,h3,CZ.mp h4],h5,h6⟩
 rw [e]
 simp only [aX,cV]
 constructor
 ·rintro ⟨⟨d,h1⟩,h2⟩;exact ⟨d,h1,h2⟩
 ·rintro ⟨d,h1,h2⟩;exact ⟨⟨d,h1⟩,h2⟩
theorem Kw (i:qd) (g:fX) (b:cD):il i g b ρ E=i ρ fun ds ρ'=>forL g b ds ρ' E:=rfl
theorem Gw (si:qd) (nO:Nat) (fr:List Nat) (g:fX) (t:fB) (el:bU):cO si nO fr g t el ρ Q=si ρ fun ds ρ1=>jz g t el ds (cSt nO fr ρ1) fun es ρc=>Q (.lst true es) (wb ρ1 fr (ρc.drop nO)):=rfl
theorem Lh:fu ρ QB=QB true ρ:=rfl
variable (QI:List D->En->Prop)
theorem yw (o:Opd):cZ o ρ QI=eQ [o] ρ fun as ρ'=>aX (pP (bG ρ' as)) fun d=>aX d.intO fun j=>gn (-(2 ^ 62)<=j∧j<2 ^ 62∧j.toNat<=sizeLine) (QI (pQ 0 j.toNat) ρ'):=by
 unfold cZ
 congr 1
 funext as ρ'
 apply propext
 simp only [aX,gn]
 constructor
 ·rintro ⟨j,h1,h2,h3⟩;exact ⟨_,by rw [h1];rfl,j,rfl,h2,h3⟩
 ·rintro ⟨d,h1,j,h2,h3,h4⟩
  obtain ⟨a,rfl,h7⟩:=rm ρ' h1
  exact ⟨j,by rw [eH,jc,h7,lX.mp h2];rfl,h3,h4⟩
theorem yx (o o':Opd):mW o o' ρ QI=eQ [o,o'] ρ fun as ρ'=>aX (JK (bG ρ' as)) fun p=>aX p.1.intO fun i=>aX p.2.intO fun j=>gn (-(2 ^ 62)<=i∧i<2 ^ 62 ∧ -(2 ^ 62)<=j∧j<2 ^ 62∧(j - i).toNat<=sizeLine) (QI (pQ i (j - i).toNat) ρ'):=by
 unfold mW
 congr 1
 funext as ρ'
 apply propext
 simp only [aX,gn,Dw]
 constructor
 ·rintro ⟨i,j,h1,h2,h3⟩;exact ⟨(_,_),h1,i,rfl,j,rfl,h2,h3⟩
 ·rintro ⟨⟨d,e⟩,h1,i,h2,j,h3,h4,h5⟩
  exact ⟨i,j,by rw [h1,lX.mp h2,lX.mp h3],h4,h5⟩
def D.seqO:D->Option (List D)
 | .lst _ ds=>some (D.fzs ds)
 | .tup ds=>some (D.fzs ds)
 | .scr ns=>some (ns.map D.int)
 | _=>none
theorem GR (s:bU):gq s ρ QI=s ρ fun d ρ'=>aX d.seqO fun ds=>gn (ds.length<=sizeLine) (QI ds ρ'):=by
 unfold gq
 congr 1
 funext d ρ'
 cases d <;> simp [aX,gn,D.seqO,D.fzs_eq]
def D.lstO:D->Option (List D)
 | .lst _ ds=>some (D.fzs ds)
 | _=>none
theorem Lj (s u:bU):pZ s u ρ QI=s ρ fun d ρ1=>u ρ1 fun e ρ2=>aX d.lstO fun xs=>aX e.lstO fun ys=>gn (xs.length<=sizeLine) (QI (mL xs ys) ρ2):=by
 unfold pZ
 simp only [fQ,jP]
 congr 1
 funext d ρ1
 congr 1
 funext e ρ2
 apply propext
 simp only [aX,gn]
 constructor
 ·rintro ⟨o,xs,o',ys,h,h2,h3⟩
  cases h
  exact ⟨_,rfl,_,rfl,by rw [D.fzs_eq,List.length_map];exact h2,h3⟩
 ·rintro ⟨xs,h1,ys,h2,h3,h4⟩
  cases d with
  | lst o xs'=>
   cases e with
   | lst o' ys'=>
    cases h1;cases h2
    exact ⟨o,xs',o',ys',rfl,by rw [D.fzs_eq,List.length_map] at h3;exact h3,h4⟩
   | _=>cases h2
  | _=>cases h1
theorem Gz (s:bU):zr s ρ QI=s ρ fun d ρ1=>aX d.lstO fun xs=>gn (xs.length<=sizeLine) (QI (oF 0 xs) ρ1):=by
 unfold zr
 simp only [fQ,jP]
 congr 1
 funext d ρ1
 apply propext
 simp only [aX,gn]
 constructor
 ·rintro ⟨o,xs,h,h2,h3⟩
  cases h
  exact ⟨_,rfl,by rw [D.fzs_eq,List.length_map];exact h2,h3⟩
 ·rintro ⟨xs,h1,h3,h4⟩
  cases d with
  | lst o xs'=>
   cases h1
   exact ⟨o,xs',rfl,by rw [D.fzs_eq,List.length_map] at h3;exact h3,h4⟩
  | _=>cases h1
end
theorem Tg (n m:Nat) (io:Bool) (b:cD) (ds:List D) (Q:D->Option D->Prop):fnS n m io b ds Q=gn (ds.length=n) (b (ds.map some++List.replicate m none) ⟨fun ρ => Q .non (qN io ρ),fun d ρ => Q d (qN io ρ),fun _=>False,fun _=>False⟩):=rfl
theorem Tr (a:En->Prop) (b:D->En->Prop) (c d:En->Prop) (ρ : En):EndD.nx ⟨a,b,c,d⟩ ρ = a ρ:=rfl
theorem Tw (a:En->Prop) (b:D->En->Prop) (c d:En->Prop) (x:D) (ρ : En):EndD.rt ⟨a,b,c,d⟩ x ρ = b x ρ:=rfl
theorem SX (a:En->Prop) (b:D->En->Prop) (c d:En->Prop) (ρ : En):EndD.bk ⟨a,b,c,d⟩ ρ = c ρ:=rfl
theorem Tc (a:En->Prop) (b:D->En->Prop) (c d:En->Prop) (ρ : En):EndD.ct ⟨a,b,c,d⟩ ρ = d ρ:=rfl
theorem Mg (ρ : En):qN false ρ = none:=rfl
theorem Eo (ρ : En):qN true ρ = slot ρ 0:=by
 unfold qN
 rw [if_pos rfl]
 exact sS ρ 0
theorem wy (ρ : En) (d:D) (as:List AD):cQ ρ (.val d :: as)=cQ ρ as:=rfl
theorem ww (ρ : En) (i:Nat) (as:List AD):cQ ρ (.nam i :: as)=((match slot ρ i with | some d=>d.sh | none=>true)&&cQ ρ as):=by
 show ((match ρ[i]? with | some (some d)=>d.sh | _=>true)&&cQ ρ as)=_
 congr 1
 cases h:slot ρ i with
 | some d=>rw [cV.mpr h]
 | none=>
  split
  ·rename_i d e;rw [cV.mp e] at h;cases h
  ·rfl
end L2
namespace L2
theorem JP (ρ : En) (as:List AD) (b:Bool):aft ρ as b=cond (cQ ρ as||b) ρ (eE ρ (cz as)):=by
 unfold aft
 cases (cQ ρ as||b) <;> rfl
theorem yL (ρ : En):eE ρ [] = ρ:=rfl
theorem xu (ρ : En) (i:Nat) (is:List Nat):eE ρ (i :: is)=(match slot (eE ρ is) i with | some d=>(eE ρ is).set i (some d.fz) | none=>eE ρ is):=by
 show (match (eE ρ is)[i]? with | some (some d)=>(eE ρ is).set i (some d.fz) | _=>eE ρ is)=_
 cases h:slot (eE ρ is) i with
 | some d=>rw [cV.mpr h]
 | none=>
  split
  ·rename_i d e;rw [cV.mp e] at h;cases h
  ·rfl
end L2
namespace L2
open PySem
inductive Lz {α : Sort u} (a : α):Type where
 | mk
def lz {α : Sort u} (a : α):Lz a:=.mk
def bindL {α : Type} (o:Option α) {k : α -> Prop} (_:Lz k):Prop:=aX o k
def PL (a:Prop) {b:Prop} (_:Lz b):Prop:=gn a b
def Mi (c:Bool) {a b:Prop} (_:Lz a) (_:Lz b):Prop:=lM c a b
def Xj (f:dg) (ds:List D) {Q:D->Option D->Prop} (_:Lz Q):Prop:=f ds Q
def YZ (g:fX) (b:cD) (ds:List D) (ρ : En) {E:EndD} (_:Lz E):Prop:=forL g b ds ρ E
def Xk (g:fX) (t:fB) (el:bU) (ds:List D) (ρ : En) {Q:List D->En->Prop} (_:Lz Q):Prop:=jz g t el ds ρ Q
def WR (t:fB) (b:cD) (ρ : En) {E:EndD} (_:Lz E):Prop:=tu t b ρ E
theorem Aw {α : Type} (o:Option α) (k : α -> Prop):aX o k=bindL o (lz k):=rfl
theorem Gg (a b:Prop):gn a b=PL a (lz b):=rfl
theorem Hl (c:Bool) (a b:Prop):lM c a b=Mi c (lz a) (lz b):=rfl
theorem Ay (f:dg) (ds:List D) (Q:D->Option D->Prop):Ax f ds Q=Xj f ds (lz Q):=rfl
theorem Hc (g:fX) (b:cD) (ds:List D) (ρ : En) (E:EndD):forL g b ds ρ E=YZ g b ds ρ (lz E):=rfl
theorem Bc (g:fX) (t:fB) (el:bU) (ds:List D) (ρ : En) (Q:List D->En->Prop):jz g t el ds ρ Q=Xk g t el ds ρ (lz Q):=rfl
theorem yJ (t:fB) (b:cD) (ρ : En) (E:EndD):tu t b ρ E=WR t b ρ (lz E):=rfl
theorem uW {α : Type} (a : α) (k : α -> Prop) (z:Lz k):bindL (some a) z=k a:=DN a k
theorem uV {α : Type} (k : α -> Prop) (z:Lz k):bindL none z=False:=DK k
theorem yf (b:Prop) (z:Lz b):PL True z=b:=Ij b
theorem uU (b:Prop) (z:Lz b):PL False z=False:=DG b
theorem yE (a b:Prop) (z:Lz a) (y:Lz b):Mi true z y=a:=yF a b
theorem vO (a b:Prop) (z:Lz a) (y:Lz b):Mi false z y=b:=vP a b
theorem lA {c:Prop} [Decidable c] {a b:Prop} {z:Lz a} {y:Lz b} (h1:c->a) (h2:¬ c->b):Mi (decide c) z y:=Qu h1 h2
theorem vN {c:Bool} {a b:Prop} {z:Lz a} {y:Lz b} (h1:c=true->a) (h2:c=false->b):Mi c z y:=UT h1 h2
theorem bC {a b:Prop} {z:Lz b} (h:a) (k:b):PL a z:=⟨h,k⟩
theorem JR {α : Type} {o:Option α} {k : α -> Prop} {z:Lz k} {a : α} (h:o=some a) (q:k a):bindL o z:=⟨a,h,q⟩
end L2
namespace L2
open PySem
section
variable (i j:Int) (x y:D) (xs ys:List D) (o o':Bool) (b:Bool)
theorem Bj:cI [.int i,.int j]=some (.int (i+j)):=rfl
theorem iH (h:xs.length+ys.length<=sizeLine) (h1:D.shs xs=true) (h2:D.shs ys=true):cI [.lst o xs,.lst o' ys]=some (.lst true (xs++ys)):=by
 show (if _ then _ else _)=_
 rw [if_pos ⟨h,h1,h2⟩]
theorem vf (h:xs.length+ys.length<=sizeLine) (h1:D.shs xs=true) (h2:D.shs ys=true):cI [.tup xs,.tup ys]=some (.tup (xs++ys)):=by
 show (if _ then _ else _)=_
 rw [if_pos ⟨h,h1,h2⟩]
theorem Bx:pN [.int i,.int j]=some (.int (i - j)):=rfl
theorem Bu (h:iw i j=true):dH [.int i,.int j]=some (.int (i*j)):=by
 show (if _ then _ else _)=_
 rw [if_pos h]
theorem yt (h:j≠0):lV [.int i,.int j]=some (.int (i.fdiv j)):=by
 show (if _ then _ else _)=_
 rw [if_neg h]
theorem Bt (h:j≠0):kW [.int i,.int j]=some (.int (i.fmod j)):=by
 show (if _ then _ else _)=_
 rw [if_neg h]
theorem Bw:vg [.int i]=some (.int (-i)):=rfl
theorem Gn:dLt [.int i,.int j]=some (.bl (decide (i<j))):=rfl
theorem Gm:dLe [.int i,.int j]=some (.bl (decide (i<=j))):=rfl
theorem Gj:dGt [.int i,.int j]=some (.bl (decide (j<i))):=rfl
theorem Gi:dGe [.int i,.int j]=some (.bl (decide (j<=i))):=rfl
theorem za:dEq [.int i,.int j]=some (.bl (i==j)):=rfl
theorem zb:dNe [.int i,.int j]=some (.bl (!(i==j))):=rfl
theorem Bl:lL [.lst o xs]=some (.int xs.length):=rfl
theorem Bo:lL [.tup xs]=some (.int xs.length):=rfl
theorem Bm (ns:List Int):lL [.scr ns]=some (.int ns.length):=rfl
theorem Bh:Ed [.int i]=some (.int (if i<0 then -i else i)):=rfl
theorem Bs:Br [.int i,.int j]=some (.int (if j<i then j else i)):=rfl
theorem Bp:Ir [.int i,.int j]=some (.int (if j>i then j else i)):=rfl
theorem Bk:Ip [.int i]=some (.int i):=rfl
theorem Gk:Ip [.bl b]=some (.int (if b then 1 else 0)):=rfl
theorem Td:Qg [x,.non]=some (.bl x.isNon):=rfl
theorem Kf:Xl [x,.non]=some (.bl (!x.isNon)):=rfl
theorem tQ (h:D.shs xs=true):jC [.lst o xs]=some (.lst true xs):=by
 show (if _ then _ else _)=_
 rw [if_pos h]
theorem tR (h:D.shs xs=true):jC [.tup xs]=some (.lst true xs):=by
 show (if _ then _ else _)=_
 rw [if_pos h]
theorem vh (h:D.shs xs=true):zc [.lst o xs]=some (.tup xs):=by
 show (if _ then _ else _)=_
 rw [if_pos h]
theorem vW (h:xs.length<sizeLine):gh xs [x]=some (xs++[x],.non):=by
 show (if _ then _ else _)=_
 rw [if_pos h]
theorem Ub {α : Type} (a : α) (l:List α):atI (a :: l) 0=some a:=by
 have e:ixN (a :: l).length 0=some 0:=by unfold ixN;simp
 unfold atI;rw [e];rfl
theorem Uc {α : Type} (a c : α) (l:List α):atI (a :: c :: l) 1=some c:=by
 have e:ixN (a :: c :: l).length 1=some 1:=by unfold ixN;simp;omega
 unfold atI;rw [e];rfl
theorem ji {k:Int} {d:D} (h:atI xs k=some d) (hs:d.sh=true):ixF (.lst o xs) k=some (d,none):=by
 have e:dIx [.lst o xs,.int k]=some d:=by
  show (atI xs k).bind _=_
  rw [h];simp [hs]
 unfold ixF;rw [e]
theorem Ho {k:Int} {d:D} (h:atI xs k=some d) (hs:d.sh=true):ixF (.tup xs) k=some (d,none):=by
 have e:dIx [.tup xs,.int k]=some d:=by
  show (atI xs k).bind _=_
  rw [h];simp [hs]
 unfold ixF;rw [e]
theorem Hn {ns:List Int} {k n:Int} (h:atI ns k=some n):ixF (.scr ns) k=some (.int n,none):=by
 have e:dIx [.scr ns,.int k]=some (.int n):=by
  show (atI ns k).map D.int=_
  rw [h];rfl
 unfold ixF;rw [e]
theorem Qv {k:Int} {d:D} {n:Nat} (h:ixN xs.length k=some n) (hd:xs[n]? = some d) (hs:d.sh=false):ixF (.lst o xs) k=some (d.fz,some (.lst o (xs.set n d.fz))):=by
 have e:dIx [.lst o xs,.int k]=none:=by
  show (atI xs k).bind _=_
  unfold atI;rw [h]
  show (xs[n]?).bind _=_
  rw [hd];simp [hs]
 unfold ixF;rw [e];simp [h,hd]
theorem Er (h:x.sh=true):ixF (.lst o (x :: xs)) 0=some (x,none):=ji _ _ (Ub x xs) h
theorem Es (h:y.sh=true):ixF (.lst o (x :: y :: xs)) 1=some (y,none):=ji _ _ (Uc x y xs) h
theorem Et (h:x.sh=true):ixF (.tup (x :: xs)) 0=some (x,none):=Ho _ (Ub x xs) h
theorem Eu (h:y.sh=true):ixF (.tup (x :: y :: xs)) 1=some (y,none):=Ho _ (Uc x y xs) h
theorem qF {k:Int} {d:D} (h:atI xs k=some d) (hs:d.sh=true):dIx [.lst o xs,.int k]=some d:=by
 show (atI xs k).bind _=_
 rw [h];simp [hs]
theorem Qi {k:Int} {d:D} (h:atI xs k=some d) (hs:d.sh=true):dIx [.tup xs,.int k]=some d:=by
 show (atI xs k).bind _=_
 rw [h];simp [hs]
theorem Xy (n:Nat):ixN (n+1) 0=some 0:=by unfold ixN;simp
theorem Xz (n:Nat):ixN (n+1+1) 1=some 1:=by unfold ixN;simp;omega
end
theorem yH (ρ : En) (i:Nat):NB ρ i none = ρ:=rfl
theorem yI (ρ : En) (i:Nat) (c:D):NB ρ i (some c) = ρ.set i (some c):=rfl
end L2
namespace L2
open PySem
def Tp (c:Prop) {a b:Prop} (_:Lz a) (_:Lz b):Prop:=(c∧a)∨b
theorem zg (ρ : En) (E:EndD) (js:List Nat) (b:cD):ue js b ρ E=b (vz ρ js) E:=rfl
theorem sO (ρ : En):vz ρ [] = ρ:=rfl
theorem qi (ρ : En) (j:Nat) (js:List Nat):vz ρ (j :: js)=(vz ρ js).set j none:=rfl
theorem GF (ρ : En) (Q:D->En->Prop) (i:Nat) (s:bU):Tz i s ρ Q=aX (slot ρ i) fun d=>s (ρ.set i (some d.fz)) fun r ρ'=>Tp (Ms i ρ ρ' r) (lz (Q r (ρ'.set i (some d)))) (lz (Q r ρ')):=by
 simp only [Tz,aX,cV,Tp]
end L2
namespace Z
theorem Lx (a b:Int):Int.gcd b (a.fmod b)=Int.gcd a b:=by
 have h:a.fmod b=a+b*(-(a.fdiv b)):=by
  have:=Int.mul_fdiv_add_fmod a b
  rw [Int.mul_neg];omega
 rw [h,Int.gcd_comm b]
 first
  | exact Int.gcd_add_mul_left_left ..
  | simp
theorem Qo (a b:Int) (h:b≠0):(a.fmod b).natAbs<b.natAbs:=by
 rcases Int.lt_or_gt_of_ne h with hb | hb
 ·have e:a.fmod b = -((-a).fmod (-b)):=by rw [Int.neg_fmod_neg];omega
  have h1:=Int.fmod_nonneg_of_pos (-a) (b:=-b) (by omega)
  have h2:=Int.fmod_lt_of_pos (-a) (b:=-b) (by omega)
  omega
 ·have h1:=Int.fmod_nonneg_of_pos a hb
  have h2:=Int.fmod_lt_of_pos a hb
  omega
def sg (t b:Int):Int:=if b<0 then -(Int.gcd t b:Int) else (Int.gcd t b:Int)
def low (t b:Int):Int×Int:=(t.fdiv (sg t b),b.fdiv (sg t b))
theorem ug {t b:Int} (h:b≠0):sg t b≠0:=by
 have:0<Int.gcd t b:=Int.gcd_pos_iff.mpr (.inr h)
 unfold sg;split <;> omega
theorem Wt (t b:Int):(sg t b).natAbs=Int.gcd t b:=by
 unfold sg;split <;> omega
theorem pF (t b:Int):t=sg t b*(low t b).1:=by
 have hd:sg t b ∣ t:=by
  unfold sg;split
  ·exact Int.neg_dvd.mpr (Int.gcd_dvd_left ..)
  ·exact Int.gcd_dvd_left ..
 show t=sg t b*t.fdiv (sg t b)
 rw [Int.mul_fdiv_cancel' hd]
theorem ni (t b:Int):b=sg t b*(low t b).2:=by
 have hd:sg t b ∣ b:=by
  unfold sg;split
  ·exact Int.neg_dvd.mpr (Int.gcd_dvd_right ..)
  ·exact Int.gcd_dvd_right ..
 show b=sg t b*b.fdiv (sg t b)
 rw [Int.mul_fdiv_cancel' hd]
theorem uE {t b:Int} (h:b≠0):0<(low t b).2:=by
 have e:=ni t b
 have hg:0<Int.gcd t b:=Int.gcd_pos_iff.mpr (.inr h)
 by_cases hb:b<0
 ·have es:sg t b = -(Int.gcd t b:Int):=by unfold sg;rw [if_pos hb]
  rw [es] at e
  by_cases hq:0<(low t b).2
  ·exact hq
  ·exfalso
   have:0<=(Int.gcd t b:Int) * -(low t b).2:=Int.mul_nonneg (by omega) (by omega)
   rw [Int.mul_neg] at this
   rw [Int.neg_mul] at e
   omega
 ·have es:sg t b=(Int.gcd t b:Int):=by unfold sg;rw [if_neg hb]
  rw [es] at e
  by_cases hq:0<(low t b).2
  ·exact hq
  ·exfalso
   have:0<=(Int.gcd t b:Int) * -(low t b).2:=Int.mul_nonneg (by omega) (by omega)
   rw [Int.mul_neg] at this
   omega
theorem zF {t b:Int} (h:b≠0):Int.gcd (low t b).1 (low t b).2=1:=by
 have hg:0<Int.gcd t b:=Int.gcd_pos_iff.mpr (.inr h)
 have e1:=pF t b
 have e2:=ni t b
 have e:Int.gcd t b=Int.gcd (sg t b*(low t b).1) (sg t b*(low t b).2):=by rw [← e1,← e2]
 rw [Int.gcd_mul_left,Wt] at e
 exact (Nat.mul_left_cancel hg (by rw [Nat.mul_one];exact e)).symm
theorem pR {a b c:Int} (e:a=b*c) (h:b≠0):c.natAbs<=a.natAbs:=by
 rw [e,Int.natAbs_mul]
 exact Nat.le_mul_of_pos_left _ (by omega)
theorem QT {t b:Int} (h:b≠0):(low t b).1.natAbs<=t.natAbs:=pR (pF t b) (ug h)
theorem QV {t b:Int} (h:b≠0):(low t b).2.natAbs<=b.natAbs:=pR (ni t b) (ug h)
theorem wZ {p q p' q':Int} (hq:0<q) (hq':0<q') (g:Int.gcd p q=1) (g':Int.gcd p' q'=1) (e:p*q'=p'*q):p=p'∧q=q':=by
 have d1:q ∣ q':=by
  have h:q ∣ p*q':=⟨p',by rw [e,Int.mul_comm]⟩
  have h2:=Int.dvd_gcd_mul_iff_dvd_mul.mpr h
  rw [Int.gcd_comm,g] at h2
  simpa using h2
 have d2:q' ∣ q:=by
  have h:q' ∣ p'*q:=⟨p,by rw [← e,Int.mul_comm]⟩
  have h2:=Int.dvd_gcd_mul_iff_dvd_mul.mpr h
  rw [Int.gcd_comm,g'] at h2
  simpa using h2
 have l1:=Int.le_of_dvd hq' d1
 have l2:=Int.le_of_dvd hq d2
 have eq:q=q':=by omega
 refine ⟨?_,eq⟩
 rw [eq] at e
 exact Int.eq_of_mul_eq_mul_right (by omega) e
theorem Vl {t b:Int} (hb:0<b) (g:Int.gcd t b=1):low t b=(t,b):=by
 have es:sg t b=1:=by unfold sg;rw [if_neg (by omega),g];rfl
 unfold low;rw [es];simp
theorem Jj {t b s d:Int} (hb:b≠0) (hd:d≠0) (e:t*d=s*b):low t b=low s d:=by
 have h1:=pF t b
 have h2:=ni t b
 have h3:=pF s d
 have h4:=ni s d
 have k:sg t b*sg s d≠0:=Int.mul_ne_zero (ug hb) (ug hd)
 have e':(low t b).1*(low s d).2=(low s d).1*(low t b).2:=by
  refine Int.eq_of_mul_eq_mul_left k ?_
  have l:sg t b*sg s d*((low t b).1*(low s d).2)=t*d:=by
   conv=>rhs;rw [h1,h4]
   simp only [Int.mul_assoc,Int.mul_left_comm,Int.mul_comm]
  have r:sg t b*sg s d*((low s d).1*(low t b).2)=s*b:=by
   conv=>rhs;rw [h3,h2]
   simp only [Int.mul_assoc,Int.mul_left_comm,Int.mul_comm]
  rw [l,r,e]
 have w:=wZ (uE hb) (uE hd) (zF hb) (zF hd) e'
 exact Prod.ext w.1 w.2
theorem back {a b c d:Int} (hb:0<b) (hd:0<d) (g:Int.gcd a b=1) :
  low ((low (a*d - c*b) (b*d)).1*d+c*(low (a*d - c*b) (b*d)).2) ((low (a*d - c*b) (b*d)).2*d)=(a,b):=by
 have hbd:b*d≠0:=Int.mul_ne_zero (by omega) (by omega)
 have e1:=pF (a*d - c*b) (b*d)
 have e2:=ni (a*d - c*b) (b*d)
 have hp:=uE (t:=a*d - c*b) hbd
 have hk:=ug (t:=a*d - c*b) hbd
 generalize low (a*d - c*b) (b*d)=z at *
 generalize sg (a*d - c*b) (b*d)=k at *
 obtain ⟨p,q⟩:=z
 dsimp only at *
 have hqd:q*d≠0:=Int.mul_ne_zero (by omega) (by omega)
 rw [Jj hqd (show b≠0 by omega) (s:=a) ?_,Vl hb g]
 refine Int.eq_of_mul_eq_mul_left hk ?_
 have x1:k*((p*d+c*q)*b)=(k*p)*d*b+c*b*(k*q):=by
  rw [Int.add_mul,Int.mul_add]
  congr 1 <;> simp only [Int.mul_assoc,Int.mul_left_comm,Int.mul_comm]
 have x2:k*(a*(q*d))=a*d*(k*q):=by simp only [Int.mul_assoc,Int.mul_left_comm,Int.mul_comm]
 rw [x1,x2,← e1,← e2]
 have y1:(a*d - c*b)*d*b=a*d*(b*d) - c*b*(b*d):=by
  rw [Int.mul_assoc,Int.mul_comm d b,Int.sub_mul]
 rw [y1];omega
end Z
namespace Z
def Bd (n:Nat) (i:Int):Prop:=i.natAbs<2 ^ n
theorem Bd.mono {m n:Nat} {i:Int} (h:Bd m i) (hmn:m<=n):Bd n i:=Nat.lt_of_lt_of_le h (Nat.pow_le_pow_right (by decide) hmn)
theorem Bd.mul {m n:Nat} {a b:Int} (h:Bd m a) (k:Bd n b):Bd (m+n) (a*b):=by
 unfold Bd at *
 rw [Int.natAbs_mul,Nat.pow_add]
 exact Nat.mul_lt_mul'' h k
theorem Bd.add {m:Nat} {a b:Int} (h:Bd m a) (k:Bd m b):Bd (m+1) (a+b):=by
 unfold Bd at *
 rw [Nat.pow_succ]
 omega
theorem Bd.sub {m:Nat} {a b:Int} (h:Bd m a) (k:Bd m b):Bd (m+1) (a - b):=by
 unfold Bd at *
 rw [Nat.pow_succ]
 omega
theorem Bd.le {m:Nat} {a b:Int} (h:Bd m a) (k:b.natAbs<=a.natAbs):Bd m b:=Nat.lt_of_le_of_lt k h
theorem QR {m:Nat} {t b:Int} (h:Bd m t) (hb:b≠0):Bd m (low t b).1:=h.le (QT hb)
theorem QS {m:Nat} {t b:Int} (h:Bd m b) (hb:b≠0):Bd m (low t b).2:=h.le (QV hb)
end Z
namespace Z
theorem Ht {t b:Int} (h:b≠0):(low t b).1=(Rat.divInt t b).num∧(low t b).2=((Rat.divInt t b).den:Int):=by
 have hp:=uE (t:=t) h
 have hg:=zF (t:=t) h
 have hd:(Rat.divInt t b).den≠0:=(Rat.divInt t b).den_nz
 refine wZ hp (by omega) hg ?_ ?_
 ·have:=(Rat.divInt t b).reduced
  rw [Int.gcd_eq_natAbs_gcd_natAbs];simpa using this
 ·have e:Rat.divInt (low t b).1 (low t b).2=Rat.divInt (Rat.divInt t b).num ((Rat.divInt t b).den:Int):=by
   have e1:Rat.divInt (Rat.divInt t b).num ((Rat.divInt t b).den:Int)=Rat.divInt t b:=by rw [Rat.divInt_ofNat,Rat.mkRat_self]
   rw [e1]
   refine (Rat.divInt_eq_divInt_iff (by omega) h).mpr ?_
   have h1:=pF t b
   have h2:=ni t b
   have k:=ug (t:=t) h
   refine Int.eq_of_mul_eq_mul_left k ?_
   rw [← Int.mul_assoc,← Int.mul_assoc,← h1]
   conv=>rhs;rw [Int.mul_comm (sg t b) t,Int.mul_assoc,← h2]
  exact (Rat.divInt_eq_divInt_iff (by omega) (by omega)).mp e
theorem jR (q:Rat):Rat.divInt q.num (q.den:Int)=q:=by rw [Rat.divInt_ofNat,Rat.mkRat_self]
theorem jN (q:Rat):(q.den:Int)≠0:=by have:=q.den_nz;omega
theorem zR (p q:Rat):Rat.divInt (p.num*q.den+q.num*p.den) (p.den*q.den)=p+q:=by
 rw [← Rat.divInt_add_divInt _ _ (jN p) (jN q),jR,jR]
theorem HQ (p q:Rat):Rat.divInt (p.num*q.den - q.num*p.den) (p.den*q.den)=p - q:=by
 rw [← Rat.divInt_sub_divInt _ _ (jN p) (jN q),jR,jR]
theorem zT (p q:Rat):Rat.divInt (p.num*q.num) (p.den*q.den)=p*q:=by
 rw [← Rat.divInt_mul_divInt,jR,jR]
theorem HN (p q:Rat):Rat.divInt (p.num*q.den) (p.den*q.num)=p / q:=by
 rw [Rat.div_def,← Rat.divInt_mul_divInt,jR,← Rat.inv_divInt,jR]
theorem MJ {q:Rat} (h:q≠0):q.num≠0:=fun z=>h (by
 have:=jR q
 rw [z] at this
 rw [← this];simp)
def Bq (n:Nat) (q:Rat):Prop:=Bd n q.num∧Bd n (q.den:Int)
theorem Bq.mono {m n:Nat} {q:Rat} (h:Bq m q) (k:m<=n):Bq n q:=⟨h.1.mono k,h.2.mono k⟩
theorem tL {m:Nat} {t b:Int} (hb:b≠0) (h1:Bd m t) (h2:Bd m b):Bq m (Rat.divInt t b):=by
 obtain ⟨e1,e2⟩:=Ht (t:=t) hb
 exact ⟨by rw [← e1];exact QR h1 hb,by rw [← e2];exact QS h2 hb⟩
theorem lC (p q:Rat):(p.den:Int)*(q.den:Int)≠0:=Int.mul_ne_zero (jN p) (jN q)
theorem Ue {m n:Nat} {p q:Rat} (h:Bq m p) (k:Bq n q):Bq (m+n+1) (p+q):=by
 rw [← zR]
 refine tL (lC p q) (Bd.add (h.1.mul k.2) ?_) ((h.2.mul k.2).mono (Nat.le_succ _))
 rw [Nat.add_comm m n];exact k.1.mul h.2
theorem yS {m n:Nat} {p q:Rat} (h:Bq m p) (k:Bq n q):Bq (m+n+1) (p - q):=by
 rw [← HQ]
 refine tL (lC p q) (Bd.sub (h.1.mul k.2) ?_) ((h.2.mul k.2).mono (Nat.le_succ _))
 rw [Nat.add_comm m n];exact k.1.mul h.2
theorem rY {m n:Nat} {p q:Rat} (h:Bq m p) (k:Bq n q):Bq (m+n) (p*q):=by
 rw [← zT]
 exact tL (lC p q) (h.1.mul k.1) (h.2.mul k.2)
theorem JS {m n:Nat} {p q:Rat} (h:Bq m p) (k:Bq n q) (hq:q≠0):Bq (m+n) (p / q):=by
 rw [← HN]
 exact tL (Int.mul_ne_zero (jN p) (MJ hq)) (h.1.mul k.2) (h.2.mul k.1)
end Z
open PySem L2 in
local macro_rules
 | `(tactic| dsimp? only)=>`(tactic| simp only [↓Xm,↓Lg,↓jP,↓fQ,↓jO,↓Gy,↓KZ,↓KD,↓Up,↓Ks,↓Tf,↓KJ,↓Gv,↓KN,↓GK,↓Kz,↓KY,↓pC,↓BX,↓KC,↓KH,↓BZ,↓Eh,↓GJ,↓Ca,↓BW,↓Gx,↓Ky,↓GC,↓KR,↓GP,↓GQ,↓zj,↓Ku,↓Th,↓Lp,↓vB,↓tV,↓KQ,↓Kv,↓Cd,↓Kw,↓Gw,↓GF,↓zg,sO,qi,↓Lh,↓yw,↓yx,↓GR,↓Lj,↓Gz,↓Tg,↓Tr,↓Tw,↓SX,↓Tc,↓nC,↓HS,↓Aw,↓Gg,↓Hl,↓Ay,↓Hc,↓Bc,↓yJ,uW,uV,yf,uU,yE,vO,xG,xH,sS,yC,jc,eH,vd,pP,JK,D.intO,D.bo,D.ownO,D.isLst,D.tupO,D.seqO,D.lstO,Mg,Eo,cQ,wy,ww,cz,JP,yL,xu,cond_true,cond_false,clO,yH,yI,Er,Es,Et,Eu,cSt,wb,D.fz,D.fzs,D.sh,D.shs,D.clean,D.cleans,D.tru,D.isNon,Bj,iH,vf,Bx,Bu,yt,Bt,Bw,Gn,Gm,Gj,Gi,za,zb,Bl,Bo,Bm,Bh,Bs,Bp,Bk,Gk,Td,Kf,tQ,tR,vh,Xy,Xz,ne_eq,Int.reduceEq,List.map_cons,List.map_nil,List.replicate_succ,List.replicate_zero,List.replicate,List.cons_append,List.nil_append,List.append_nil,List.length_cons,List.length_nil,List.getElem?_cons_zero,List.getElem?_cons_succ,List.getElem?_nil,Option.getD_some,Option.getD_none,List.set_cons_zero,List.set_cons_succ,List.set_nil,List.drop_succ_cons,List.drop_zero,List.drop_nil,Nat.reduceAdd,Nat.reduceSub,Nat.reduceLT,Nat.reduceLeDiff,Nat.reduceEqDiff,Int.reduceToNat,Nat.zero_add,and_true,true_and,and_self,if_true,if_false,reduceIte,Bool.and_true,Bool.true_and,Bool.and_false,Bool.false_and,Bool.or_true,Bool.true_or,Bool.or_false,Bool.false_or,Bool.not_true,Bool.not_false,Bool.and_self,decide_true,decide_false,Bool.false_eq_true,reduceCtorEq,List.mem_cons,List.not_mem_nil,or_false,not_false_eq_true,Option.bind_some,Option.map_some,Option.map_none,Option.bind_none,sizeLine_eq])
 | `(tactic| dsimp? only [$ts,*])=>`(tactic| simp only [$ts,*,↓Xm,↓Lg,↓jP,↓fQ,↓jO,↓Gy,↓KZ,↓KD,↓Up,↓Ks,↓Tf,↓KJ,↓Gv,↓KN,↓GK,↓Kz,↓KY,↓pC,↓BX,↓KC,↓KH,↓BZ,↓Eh,↓GJ,↓Ca,↓BW,↓Gx,↓Ky,↓GC,↓KR,↓GP,↓GQ,↓zj,↓Ku,↓Th,↓Lp,↓vB,↓tV,↓KQ,↓Kv,↓Cd,↓Kw,↓Gw,↓GF,↓zg,sO,qi,↓Lh,↓yw,↓yx,↓GR,↓Lj,↓Gz,↓Tg,↓Tr,↓Tw,↓SX,↓Tc,↓nC,↓HS,↓Aw,↓Gg,↓Hl,↓Ay,↓Hc,↓Bc,↓yJ,uW,uV,yf,uU,yE,vO,xG,xH,sS,yC,jc,eH,vd,pP,JK,D.intO,D.bo,D.ownO,D.isLst,D.tupO,D.seqO,D.lstO,Mg,Eo,cQ,wy,ww,cz,JP,yL,xu,cond_true,cond_false,clO,yH,yI,Er,Es,Et,Eu,cSt,wb,D.fz,D.fzs,D.sh,D.shs,D.clean,D.cleans,D.tru,D.isNon,Bj,iH,vf,Bx,Bu,yt,Bt,Bw,Gn,Gm,Gj,Gi,za,zb,Bl,Bo,Bm,Bh,Bs,Bp,Bk,Gk,Td,Kf,tQ,tR,vh,Xy,Xz,ne_eq,Int.reduceEq,List.map_cons,List.map_nil,List.replicate_succ,List.replicate_zero,List.replicate,List.cons_append,List.nil_append,List.append_nil,List.length_cons,List.length_nil,List.getElem?_cons_zero,List.getElem?_cons_succ,List.getElem?_nil,Option.getD_some,Option.getD_none,List.set_cons_zero,List.set_cons_succ,List.set_nil,List.drop_succ_cons,List.drop_zero,List.drop_nil,Nat.reduceAdd,Nat.reduceSub,Nat.reduceLT,Nat.reduceLeDiff,Nat.reduceEqDiff,Int.reduceToNat,Nat.zero_add,and_true,true_and,and_self,if_true,if_false,reduceIte,Bool.and_true,Bool.true_and,Bool.and_false,Bool.false_and,Bool.or_true,Bool.true_or,Bool.or_false,Bool.false_or,Bool.not_true,Bool.not_false,Bool.and_self,decide_true,decide_false,Bool.false_eq_true,reduceCtorEq,List.mem_cons,List.not_mem_nil,or_false,not_false_eq_true,Option.bind_some,Option.map_some,Option.map_none,Option.bind_none,sizeLine_eq])
namespace Z
open PySem L2
def fr (q:Rat):D:=.tup [.int q.num,.int (q.den:Int)]
theorem cb {m n:Nat} {i j:Int} (h:Bd m i) (k:Bd n j) (l:m+n<=134217728):iw i j=true:=by
 unfold iw
 have h1:bits i<=m:=intBits_le_iff.mpr h
 have h2:bits j<=n:=intBits_le_iff.mpr k
 exact decide_eq_true (by omega)
theorem Ck {a b:Int} {E:EndD} (q:∀ x:Int,(if x<0 then -x else x)=(Int.gcd a b:Int)->E.nx [some (.int x),some (.int 0)]) :
  tu (tB' (sDo dNe [.nam 1,.val (sC (.int 0))])) (Jw 0 1 [.nam 1,.val (sDo kW [.nam 0,.nam 1])]) [some (.int a),some (.int b)] E:=by
 refine ⟨fun m ρ => ∃ x y:Int,ρ = [some (.int x),some (.int y)]∧m=y.natAbs∧Int.gcd x y=Int.gcd a b,⟨_,a,b,rfl,rfl,rfl⟩,?_⟩
 rintro m ρ ⟨x,y,rfl,rfl,hg⟩
 dsimp? only [zb]
 by_cases hy:y=0
 ·subst hy
  simp
  refine q x ?_
  rw [← hg,Int.gcd_zero_right]
  split <;> omega
 ·have:(!y==0)=true:=by simpa using hy
  rw [if_pos this]
  dsimp? only [hy]
  exact ⟨_,Qo x y hy,_,_,rfl,rfl,by rw [Lx];exact hg⟩
theorem lq {a b:Int} {Q:D->Option D->Prop} (q:Q (.int (Int.gcd a b)) none):dU [.int a,.int b] Q:=by
 refine ⟨rfl,Ck fun x hx=>?_⟩
 dsimp? only [hx]
 exact q
theorem qb {a b:Int} {Q:D->Option D->Prop} (q:Q (.int (Int.gcd a b)) none):eY [.int a,.int b] Q:=by
 refine ⟨rfl,Ck fun x hx=>?_⟩
 dsimp? only [hx]
 exact q
theorem GX {t b:Int} (hb:b≠0):D.tup [.int (t.fdiv (sg t b)),.int (b.fdiv (sg t b))]=fr (Rat.divInt t b):=by
 obtain ⟨e1,e2⟩:=Ht (t:=t) hb
 unfold fr
 rw [← e1,← e2];rfl
theorem jq {t b:Int} (hb:b≠0) {Q:D->Option D->Prop} (q:Q (fr (Rat.divInt t b)) none):dm [.int t,.int b] Q:=by
 rw [← GX hb] at q
 have hs:=ug (t:=t) hb
 dsimp? only [dm,za]
 refine vN (fun h=>absurd (by simpa using h) hb) fun _=>?_
 dsimp? only
 refine lq ?_
 dsimp? only
 refine lA (fun h=>?_) fun h=>?_
 ·have e : -(Int.gcd t b:Int)=sg t b:=by unfold sg;rw [if_pos h]
  dsimp? only [e,hs]
  exact q
 ·have e:(Int.gcd t b:Int)=sg t b:=by unfold sg;rw [if_neg h]
  dsimp? only [e,hs]
  exact q
theorem aZ (q:Rat):(fr q).sh=true:=rfl
theorem bw (q:Rat):(fr q).fz=fr q:=rfl
theorem aD (q:Rat):(fr q).clean=true:=rfl
theorem mX (q:Rat):ixF (fr q) 0=some (.int q.num,none):=rfl
theorem lN (q:Rat):ixF (fr q) 1=some (.int q.den,none):=rfl
theorem jh {α : Type} (g : α -> D) (hg:∀ x,(g x).fz=g x):∀ xs:List α,D.fzs (xs.map g)=xs.map g
 | []=>by simp [D.fzs]
 | x :: xs=>by rw [List.map_cons,D.fzs,hg,jh g hg xs]
theorem gm {α : Type} (g : α -> D) (hg:∀ x,(g x).sh=true):∀ xs:List α,D.shs (xs.map g)=true
 | []=>by simp [D.shs]
 | x :: xs=>by rw [List.map_cons,D.shs,hg,gm g hg xs];rfl
theorem mU {α : Type} (g : α -> D) (hg:∀ x,(g x).clean=true):∀ xs:List α,D.cleans (xs.map g)=true
 | []=>by simp [D.cleans]
 | x :: xs=>by rw [List.map_cons,D.cleans,hg,mU g hg xs];rfl
theorem lY {t b:Int} (hb:b≠0) {Q:D->Option D->Prop} (q:Q (fr (Rat.divInt t b)) none):bR [.int t,.int b] Q:=by
 rw [← GX hb] at q
 have hs:=ug (t:=t) hb
 dsimp? only [bR]
 refine qb ?_
 dsimp? only
 refine lA (fun h=>?_) fun h=>?_
 ·have e:0 - (Int.gcd t b:Int)=sg t b:=by unfold sg;rw [if_pos h];omega
  dsimp? only [e,hs]
  exact q
 ·have e:(Int.gcd t b:Int)=sg t b:=by unfold sg;rw [if_neg h]
  dsimp? only [e,hs]
  exact q
theorem ud {m n:Nat} {p q:Rat} (hp:Bq m p) (hq:Bq n q) (l:m+n<=134217728) {Q:D->Option D->Prop} (h:Q (fr (p+q)) none):fO [fr p,fr q] Q:=by
 dsimp? only [fO,mX,lN,aZ,bw,cb hp.1 hq.2 l,cb hq.1 hp.2 (by omega),cb hp.2 hq.2 l]
 refine lY (lC p q) ?_
 rw [zR]
 exact h
theorem mY {m n:Nat} {p q:Rat} (hp:Bq m p) (hq:Bq n q) (l:m+n<=134217728) {Q:D->Option D->Prop} (h:Q (fr (p*q)) none):dz [fr p,fr q] Q:=by
 dsimp? only [dz,mX,lN,aZ,bw,cb hp.1 hq.1 l,cb hp.2 hq.2 l]
 refine lY (lC p q) ?_
 rw [zT]
 exact h
theorem wg {m n:Nat} {p q:Rat} (hp:Bq m p) (hq:Bq n q) (l:m+n<=134217728) {Q:D->Option D->Prop} (h:Q (fr (p - q)) none):jF [fr p,fr q] Q:=by
 dsimp? only [jF,mX,lN,aZ,bw,cb hp.1 hq.2 l,cb hq.1 hp.2 (by omega),cb hp.2 hq.2 l]
 refine jq (lC p q) ?_
 rw [HQ]
 exact h
theorem Dv {m n:Nat} {p q:Rat} (hp:Bq m p) (hq:Bq n q) (l:m+n<=134217728) {Q:D->Option D->Prop} (h:Q (fr (p*q)) none):nF [fr p,fr q] Q:=by
 dsimp? only [nF,mX,lN,aZ,bw,cb hp.1 hq.1 l,cb hp.2 hq.2 l]
 refine jq (lC p q) ?_
 rw [zT]
 exact h
theorem Rh {m n:Nat} {p q:Rat} (hq0:q≠0) (hp:Bq m p) (hq:Bq n q) (l:m+n<=134217728) {Q:D->Option D->Prop} (h:Q (fr (p / q)) none):wY [fr p,fr q] Q:=by
 dsimp? only [wY,mX,lN,aZ,bw,cb hp.1 hq.2 l,cb hp.2 hq.1 l]
 refine jq (Int.mul_ne_zero (jN p) (MJ hq0)) ?_
 rw [HN]
 exact h
end Z
namespace TM
def cj (f:Nat->Rat):Nat->Rat
 | 0=>0
 | n+1=>cj f n+f n
theorem bQ {f g:Nat->Rat}:∀ n,(∀ i,i<n->f i=g i)->cj f n=cj g n
 | 0,_=>rfl
 | n+1,h=>by
  show cj f n+f n=cj g n+g n
  rw [bQ n (fun i hi=>h i (by omega)),h n (by omega)]
theorem je {f:Nat->Rat} (n:Nat) (h:∀ i,i<n->f i=0):cj f n=0:=by
 induction n with
 | zero=>rfl
 | succ n ih=>
  show cj f n+f n=0
  rw [ih fun i hi=>h i (by omega),h n (by omega)];grind
theorem gU (f g:Nat->Rat):∀ n,cj (fun i=>f i+g i) n=cj f n+cj g n
 | 0=>by show (0:Rat)=0+0;grind
 | n+1=>by
  show cj (fun i=>f i+g i) n+(f n+g n)=cj f n+f n+(cj g n+g n)
  rw [gU f g n];grind
theorem gW (c:Rat) (f:Nat->Rat):∀ n,cj (fun i=>c*f i) n=c*cj f n
 | 0=>by show (0:Rat)=c*0;grind
 | n+1=>by
  show cj (fun i=>c*f i) n+c*f n=c*(cj f n+f n)
  rw [gW c f n];grind
theorem Ah {f:Nat->Rat} {k:Nat}:∀ n,k<n->cj f n=f k+cj (fun i=>if i=k then 0 else f i) n
 | 0,h=>absurd h (Nat.not_lt_zero _)
 | n+1,h=>by
  show cj f n+f n=f k+(cj (fun i=>if i=k then 0 else f i) n+(if n=k then 0 else f n))
  by_cases e:n=k
  ·subst e
   have q:cj (fun i=>if i=n then 0 else f i) n=cj f n:=bQ n fun i hi=>by rw [if_neg (Nat.ne_of_lt hi)]
   rw [if_pos rfl,q];grind
  ·rw [if_neg e,Ah (f:=f) (k:=k) n (by omega)];grind
theorem iV {f:Nat->Rat} {k n:Nat} (h:k<n) (z:∀ i,i<n->i≠k->f i=0):cj f n=f k:=by
 rw [Ah n h,je n fun i hi=>by by_cases e:i=k <;> simp [e,z i hi]]
 grind
theorem yO (f:Nat->Nat->Rat) (m:Nat):∀ n,cj (fun i=>cj (fun j=>f i j) m) n=cj (fun j=>cj (fun i=>f i j) n) m
 | 0=>(je m fun _ _=>rfl).symm
 | n+1=>by
  show cj (fun i=>cj (fun j=>f i j) m) n+cj (fun j=>f n j) m=cj (fun j=>cj (fun i=>f i j) n+f n j) m
  rw [yO f m n,gU]
abbrev Mx:=Nat->Nat->Rat
def Gives (n:Nat) (A:Mx) (s:Rat) (y:Nat->Rat):Prop:=∀ i,i<n->cj (fun j=>A i j*y j) n=s*A i n
def Dep (n:Nat) (A:Mx):Prop:=∃ w:Nat->Rat,(∃ i,i<n∧w i≠0) ∧ ∀ j,j<n->cj (fun i=>w i*A i j) n=0
def Unit (n at':Nat) (A:Mx):Prop:=∀ i j,i<n->j<at'->A i j=if i=j then 1 else 0
def mv (a k i:Nat):Nat:=if i=a then k else if a<i∧i<=k then i - 1 else i
def moved (a k:Nat) (A:Mx):Mx:=fun i=>A (mv a k i)
def clear (a:Nat) (A:Mx):Mx:=fun i j=>if i=a then A a j / A a a else A i j - A i a*(A a j / A a a)
theorem My {a k i n:Nat} (h:k<n) (hi:i<n):mv a k i<n:=by unfold mv;split <;> (try split) <;> omega
def vm (a k i:Nat):Nat:=if i=k then a else if a<=i∧i<k then i+1 else i
theorem Mz {a k:Nat} (h:a<=k) (i:Nat):mv a k (vm a k i)=i:=by
 unfold mv vm
 by_cases e:i=k
 ·simp [e]
 ·rw [if_neg e]
  by_cases f:a<=i∧i<k
  ·rw [if_pos f,if_neg (by omega),if_pos (by omega)];omega
  ·rw [if_neg f]
   by_cases g:i=a
   ·exfalso;omega
   ·rw [if_neg g,if_neg (by omega)]
theorem YQ {a k:Nat} (h:a<=k) (i:Nat):vm a k (mv a k i)=i:=by
 unfold mv vm
 by_cases e:i=a
 ·simp [e]
 ·rw [if_neg e]
  by_cases f:a<i∧i<=k
  ·rw [if_pos f,if_neg (by omega),if_pos (by omega)];omega
  ·rw [if_neg f]
   by_cases g:i=k
   ·exfalso;omega
   ·rw [if_neg g,if_neg (by omega)]
theorem Pn {a k i n:Nat} (h:a<=k) (hk:k<n) (hi:i<n):vm a k i<n:=by unfold vm;split <;> (try split) <;> omega
theorem Cq {n a k:Nat} {A:Mx} {s:Rat} {y:Nat->Rat} (h:a<=k) (hk:k<n):Gives n (moved a k A) s y↔Gives n A s y:=by
 constructor
 ·intro g i hi
  have:=g (vm a k i) (Pn h hk hi)
  unfold moved at this
  rw [Mz h] at this
  exact this
 ·intro g i hi
  exact g (mv a k i) (My hk hi)
theorem Cm {n a:Nat} {A:Mx} {s:Rat} {y:Nat->Rat} (ha:a<n) (p:A a a≠0):Gives n (clear a A) s y↔Gives n A s y:=by
 have lead:cj (fun j=>clear a A a j*y j) n=cj (fun j=>A a j*y j) n / A a a:=by
  have e:∀ j,j<n->clear a A a j*y j=(A a a)⁻¹ * (A a j*y j):=fun j _=>by unfold clear;rw [if_pos rfl];grind
  rw [bQ n e,gW];grind
 have other:∀ i,i≠a->cj (fun j=>clear a A i j*y j) n=cj (fun j=>A i j*y j) n - A i a*(cj (fun j=>A a j*y j) n / A a a):=fun i hi=>by
  have e:∀ j,j<n->clear a A i j*y j=A i j*y j+(-(A i a) / A a a)*(A a j*y j):=fun j _=>by unfold clear;rw [if_neg hi];grind
  rw [bQ n e,gU,gW];grind
 have ea:clear a A a n=A a n / A a a:=by unfold clear;rw [if_pos rfl]
 have eo:∀ i,i≠a->clear a A i n=A i n - A i a*(A a n / A a a):=fun i hi=>by unfold clear;rw [if_neg hi]
 constructor
 ·intro g
  have ga:=g a ha
  rw [lead,ea] at ga
  have ga':cj (fun j=>A a j*y j) n=s*A a n:=by grind
  intro i hi
  by_cases e:i=a
  ·rw [e];exact ga'
  ·have gi:=g i hi
   rw [other i e,eo i e,ga'] at gi
   grind
 ·intro g i hi
  by_cases e:i=a
  ·rw [e,lead,ea,g a ha];grind
  ·rw [other i e,eo i e,g i hi,g a ha];grind
theorem JD {a k n:Nat} (h:a<=k) (hk:k<n) (f:Nat->Rat):cj (fun i=>f (mv a k i)) n=cj f n:=by
 have e:∀ i,i<n->f (mv a k i)=cj (fun m=>if m=mv a k i then f m else 0) n:=fun i hi=>by
  rw [iV (k:=mv a k i) (My hk hi) fun m _ hm=>by rw [if_neg hm]];simp
 rw [bQ n e,yO]
 refine bQ n fun m hm=>?_
 rw [iV (k:=vm a k m) (Pn h hk hm) fun i hi hne=>?_]
 ·rw [if_pos (Mz h m).symm]
 ·rw [if_neg]
  intro z
  apply hne
  rw [z,YQ h]
theorem Iw {n a k:Nat} {A:Mx} (h:a<=k) (hk:k<n) (d:Dep n A):Dep n (moved a k A):=by
 obtain ⟨w,⟨i,hi,hw⟩,g⟩:=d
 refine ⟨fun i=>w (mv a k i),⟨vm a k i,Pn h hk hi,by show w (mv a k (vm a k i))≠0;rw [Mz h];exact hw⟩,fun j hj=>?_⟩
 show cj (fun i=>w (mv a k i)*A (mv a k i) j) n=0
 rw [JD h hk fun i=>w i*A i j];exact g j hj
theorem Iu {n a:Nat} {A:Mx} (ha:a<n) (p:A a a≠0) (d:Dep n A):Dep n (clear a A):=by
 obtain ⟨w,⟨i,hi,hw⟩,g⟩:=d
 refine ⟨fun i=>if i=a then cj (fun m=>w m*A m a) n else w i,?_,fun j hj=>?_⟩
 ·by_cases e:∃ m,m<n∧m≠a∧w m≠0
  ·obtain ⟨m,hm,hne,hwm⟩:=e
   exact ⟨m,hm,by show (if m=a then cj (fun m=>w m*A m a) n else w m)≠0;rw [if_neg hne];exact hwm⟩
  ·have z:∀ m,m<n->m≠a->w m=0:=fun m hm hne=>by
    by_cases q:w m=0
    ·exact q
    ·exact absurd ⟨m,hm,hne,q⟩ e
   have hia:i=a:=by
    by_cases q:i=a
    ·exact q
    ·exact absurd (z i hi q) hw
   refine ⟨a,ha,?_⟩
   show (if a=a then cj (fun m=>w m*A m a) n else w a)≠0
   rw [if_pos rfl,iV (k:=a) ha fun m hm hne=>by rw [z m hm hne];grind]
   rw [hia] at hw
   grind
 ·have e:∀ m,m<n->(if m=a then cj (fun m=>w m*A m a) n else w m)*clear a A m j =
    (w m*A m j + -(A a j / A a a)*(w m*A m a))+(if m=a then cj (fun m=>w m*A m a) n*(A a j / A a a) else 0):=fun m hm=>by
   unfold clear
   by_cases q:m=a
   ·simp only [if_pos q];subst q;grind
   ·simp only [if_neg q];grind
  have one:cj (fun m=>if m=a then cj (fun m=>w m*A m a) n*(A a j / A a a) else 0) n=cj (fun m=>w m*A m a) n*(A a j / A a a):=by
   rw [iV (f:=fun m=>if m=a then cj (fun m=>w m*A m a) n*(A a j / A a a) else 0) (k:=a) ha fun m hm hne=>by rw [if_neg hne]]
   simp
  rw [bQ n e,gU,gU,gW,g j hj,one]
  grind
theorem JL {n a k:Nat} {A:Mx} (u:Unit n a A) (h:a<=k) (hk:k<n) (p:A k a≠0):Unit n (a+1) (clear a (moved a k A)):=by
 intro i j hi hj
 have pa:moved a k A a a=A k a:=by unfold moved mv;rw [if_pos rfl]
 have rowa:∀ j,j<a->moved a k A a j=0:=fun j hj=>by
  unfold moved mv;rw [if_pos rfl,u k j hk hj,if_neg (by omega)]
 unfold clear
 by_cases e:j=a
 ·subst e
  by_cases q:i=j
  ·rw [if_pos q,if_pos q,pa];grind
  ·rw [if_neg q,if_neg q,pa];grind
 ·have hj':j<a:=by omega
  by_cases q:i=a
  ·rw [if_pos q,rowa j hj',if_neg (by omega)];grind
  ·rw [if_neg q,rowa j hj']
   have:moved a k A i j=if i=j then 1 else 0:=by
    unfold moved
    rw [u _ j (My hk hi) hj']
    unfold mv
    rw [if_neg q]
    by_cases z:a<i∧i<=k
    ·rw [if_pos z,if_neg (by omega),if_neg (by omega)]
    ·rw [if_neg z]
   rw [this];grind
theorem Ek {n:Nat} {A:Mx} {y:Nat->Rat} (u:Unit n n A) (g:Gives n A 1 y):∀ i,i<n->y i=A i n:=fun i hi=>by
 have:=g i hi
 rw [iV (k:=i) hi fun j hj hne=>by rw [u i j hi hj,if_neg (Ne.symm hne)];grind,u i i hi hi] at this
 grind
theorem FZ {n:Nat} {A:Mx} (u:Unit n n A):Gives n A 1 fun i=>A i n:=fun i hi=>by
 rw [iV (k:=i) hi fun j hj hne=>by rw [u i j hi hj,if_neg (Ne.symm hne)];grind,u i i hi hi]
 grind
theorem Ga {n:Nat} {A:Mx} (u:Unit n n A):¬ Dep n A:=by
 rintro ⟨w,⟨i,hi,hw⟩,g⟩
 have:=g i hi
 rw [iV (k:=i) hi fun m hm hne=>by rw [u m i hm hi,if_neg hne];grind,u i i hi hi] at this
 grind
theorem stuck {n a:Nat} {A:Mx} (u:Unit n a A) (ha:a<n) (z:∀ k,a<=k->k<n->A k a=0):∃ y:Nat->Rat,(∃ i,i<n∧y i≠0)∧Gives n A 0 y:=by
 refine ⟨fun j=>if j<a then -(A j a) else if j=a then 1 else 0,⟨a,ha,by simp⟩,fun i hi=>?_⟩
 have hz:(0:Rat)*A i n=0:=by grind
 rw [hz]
 rw [Ah (k:=a) n ha]
 by_cases q:i<a
 ·rw [iV (k:=i) hi fun j hj hne=>?_]
  ·rw [if_neg (by omega),u i i hi q]
   simp [q];grind
  ·by_cases e:j=a
   ·simp [e]
   ·rw [if_neg e]
    by_cases f:j<a
    ·rw [u i j hi f,if_neg (Ne.symm hne)];grind
    ·simp [f,e]
 ·rw [je n fun j hj=>?_]
  ·have:=z i (by omega) hi
   simp [this];grind
  ·by_cases e:j=a
   ·simp [e]
   ·rw [if_neg e]
    by_cases f:j<a
    ·rw [u i j hi f,if_neg (by omega)];grind
    ·simp [f,e]
end TM
namespace Z
open PySem L2
theorem bY {α : Type} (gI f : α -> D) {g:fX} {el:bU} (S:En->Prop):∀ {xs:List α} {ρ : En} {Q:List D->En->Prop},S ρ ->
  (∀ x∈xs,∀ ρ,S ρ -> ∀ P:D->En->Prop,(∀ ρ',S ρ'->P (f x) ρ')->g (gI x) ρ fun ρ1=>el ρ1 P)->(∀ ρ',S ρ'->Q (xs.map f) ρ')->jz g fu el (xs.map gI) ρ Q
 | [],ρ,Q,h0,_,hQ=>hQ ρ h0
 | x :: xs,ρ,Q,h0,hs,hQ=>by
  show g (gI x) ρ fun ρ1=>el ρ1 fun y ρ3=>jz g fu el (xs.map gI) ρ3 fun ys ρ4=>Q (y :: ys) ρ4
  refine hs x List.mem_cons_self ρ h0 _ fun ρ' h'=>?_
  exact bY gI f S h' (fun d' hd'=>hs d' (List.mem_cons_of_mem _ hd')) fun ρ2 h2=>hQ ρ2 h2
theorem cR {g:fX} {b:cD} {E:EndD}:∀ {ds:List D} {ρ : En} (I:Nat->En->Prop) (n:Nat),I n ρ ->
  (∀ k d ρ,ds[k]? = some d->I (n+k) ρ -> ∀ P:En->Prop,(∀ ρ',I (n+k+1) ρ'->P ρ')->g d ρ fun ρ1=>b ρ1 ⟨P,E.rt,E.nx,P⟩)->(∀ ρ',I (n+ds.length) ρ'->E.nx ρ')->forL g b ds ρ E
 | [],ρ,I,n,h0,_,hE=>hE ρ h0
 | d :: ds,ρ,I,n,h0,hs,hE=>by
  show g d ρ fun ρ1=>b ρ1 ⟨fun ρ2=>forL g b ds ρ2 E,E.rt,E.nx,fun ρ2=>forL g b ds ρ2 E⟩
  refine hs 0 d ρ rfl h0 _ fun ρ' h'=>?_
  refine cR I (n+1) h' (fun k d' ρ2 e h2 P hP=>?_) fun ρ2 h2=>hE ρ2 (by rw [List.length_cons,Nat.add_comm ds.length 1,← Nat.add_assoc];exact h2)
  have e2:n+1+k=n+(k+1):=by omega
  rw [e2] at h2
  exact hs (k+1) d' ρ2 (by simpa using e) h2 P fun ρ' h3=>hP ρ' (by rw [e2];exact h3)
theorem iK {lo:Int} {n k:Nat} {d:D} (h:(pQ lo n)[k]? = some d):k<n∧d = .int (lo+k):=by
 simp only [pQ,List.getElem?_map] at h
 obtain ⟨j,e1,rfl⟩:=Option.map_eq_some_iff.mp h
 obtain ⟨h1,h2⟩:=List.getElem?_eq_some_iff.mp e1
 simp only [List.getElem_range] at h2
 subst h2
 exact ⟨by simpa using h1,rfl⟩
theorem jT (lo:Int) (n:Nat):(pQ lo n).length=n:=by simp [pQ]
theorem aC (r:List Rat):D.shs (r.map fr)=true:=gm fr aZ r
theorem aK (r:List Rat):D.fzs (r.map fr)=r.map fr:=jh fr bw r
theorem au (r:List Rat):D.cleans (r.map fr)=true:=mU fr aD r
def Xb (d:D) (r:List Rat):Prop:=∃ o,d = .lst o (r.map fr)
inductive IsRows:List D->List (List Rat)->Prop where
 | nil:IsRows [] []
 | cons {d:D} {ds:List D} {r:List Rat} {rs:List (List Rat)}:Xb d r->IsRows ds rs->IsRows (d :: ds) (r :: rs)
def fU (r:List Rat):D:=.lst false (r.map fr)
theorem IsRows.fz:∀ {ds:List D} {rs:List (List Rat)},IsRows ds rs->D.fzs ds=rs.map fU
 | _,_,.nil=>by simp [D.fzs]
 | _,_,.cons ⟨o,e⟩ hs=>by
  subst e
  rw [D.fzs,D.fz,aK,IsRows.fz hs];rfl
theorem aO (r:List Rat):(fU r).fz=fU r:=by show D.lst false (D.fzs (r.map fr))=_;rw [aK];rfl
theorem aN (r:List Rat):(fU r).sh=true:=by show (!false&&D.shs (r.map fr))=true;rw [aC];rfl
theorem IsRows.length:∀ {ds:List D} {rs:List (List Rat)},IsRows ds rs->ds.length=rs.length
 | _,_,.nil=>rfl
 | _,_,.cons _ hs=>by rw [List.length_cons,List.length_cons,IsRows.length hs]
def ent (rs:List (List Rat)) (i j:Nat):Rat:=(rs.getD i []).getD j 0
theorem iu {α : Type} (g : α -> D) {xs:List α} {k:Nat} {x : α} (h:xs[k]? = some x):atI (xs.map g) (k:Int)=some (g x):=by
 apply mO
 rw [List.getElem?_map,h];rfl
theorem Us (p q:Rat):PyData.eqv (fr p).dat (fr q).dat=decide (p=q):=by
 show ((p.num==q.num)&&(((p.den:Int)==(q.den:Int))&&true))=_
 by_cases h:p=q
 ·subst h;simp
 ·rw [decide_eq_false h]
  by_cases h1:p.num=q.num
  ·have h2:p.den≠q.den:=fun z=>h (Rat.ext h1 z)
   have h3:((p.den:Int)==(q.den:Int))=false:=by
    rw [beq_eq_false_iff_ne]
    intro z
    exact h2 (by omega)
   rw [h3];simp
  ·have h3:(p.num==q.num)=false:=by simpa using h1
   rw [h3];rfl
theorem yM (p:Rat):dO (fr p)=true:=rfl
theorem Ke (p q:Rat):dNe [fr p,fr q]=some (.bl (!decide (p=q))):=by
 show (if (dO (fr p)&&dO (fr q))=true then some (D.bl (!PyData.eqv (fr p).dat (fr q).dat)) else none)=_
 rw [yM,yM,Us];rfl
theorem nP:D.tup [.int 0,.int 1]=fr 0:=rfl
theorem Fl:D.tup [.int 1,.int 1]=fr 1:=rfl
theorem Cy {rs:List (List Rat)} {k:Nat} {r:List Rat} {o:Bool} (h:rs[k]? = some r):ixF (.lst o (rs.map fU)) (k:Int)=some (fU r,none):=ji _ _ (iu fU h) (aN r)
theorem pD {r:List Rat} {k:Nat} {q:Rat} {o:Bool} (h:r[k]? = some q):ixF (.lst o (r.map fr)) (k:Int)=some (fr q,none):=ji _ _ (iu fr h) (aZ q)
theorem Qh {r:List Rat} {k:Nat} {q:Rat} (h:r[k]? = some q):dIx [fU r,.int (k:Int)]=some (fr q):=qF _ _ (iu fr h) (aZ q)
theorem zf {rs:List (List Rat)} {i j:Nat} {r:List Rat} {q:Rat} (h1:rs[i]? = some r) (h2:r[j]? = some q):ent rs i j=q:=by
 unfold ent
 rw [List.getD_eq_getElem?_getD,List.getD_eq_getElem?_getD,h1,Option.getD_some,h2,Option.getD_some]
theorem vU {rs:List (List Rat)} {a n:Nat} (hn:rs.length=n) (ha:a<=n) (hs:n<=100) (hl:∀ r∈rs,a<r.length) {Q:D->Option D->Prop}
  (h:∀ k,a<=k->k<n->(∀ j,a<=j->j<k->ent rs j a=0)->ent rs k a≠0->Q (.int k) none) (h2:(∀ k,a<=k->k<n->ent rs k a=0)->Q .non none):gP [.lst false (rs.map fU),.int a] Q:=by
 have e1:((n:Int) - (a:Int)).toNat=n - a:=by omega
 have p62:(2:Int) ^ 62=4611686018427387904:=by decide
 dsimp? only [gP,List.length_map,hn,e1]
 refine bC ⟨by omega,by omega,by omega,by omega,by omega⟩ ?_
 dsimp? only
 refine cR (fun k ρ => (∃ x,ρ = [some (.lst false (rs.map fU)),some (.int a),x]) ∧ ∀ j,a<=j->j<a+k->ent rs j a=0) 0 ⟨⟨_,rfl⟩,fun j h1 h2=>by omega⟩ ?_ ?_
 ·rintro k d ρ hd ⟨⟨x,rfl⟩,hz⟩ P hP
  obtain ⟨hk,rfl⟩:=iK hd
  have hlt:a+k<rs.length:=by omega
  have hr:=List.getElem?_eq_getElem hlt
  have hm:=List.getElem_mem hlt
  generalize rs[a+k]=r at hr hm
  have hq:=List.getElem?_eq_getElem (hl r hm)
  generalize r[a]'(hl r hm)=q at hq
  have he:=zf hr hq
  have ec:(a:Int)+(k:Int)=((a+k:Nat):Int):=by omega
  dsimp? only [ec,Cy hr,Qh hq,nP,Ke]
  refine vN (fun hc=>?_) fun hc=>?_
  ·(try dsimp? only)
   refine h (a+k) (by omega) (by omega) (fun j h1 h2=>hz j h1 (by omega)) ?_
   rw [he];simpa using hc
  ·(try dsimp? only)
   refine hP _ ⟨⟨_,rfl⟩,fun j h1 h2=>?_⟩
   by_cases e:j=a+k
   ·rw [e,he];simpa using hc
   ·exact hz j h1 (by omega)
 ·rintro ρ ⟨⟨x,rfl⟩,hz⟩
  dsimp? only
  rw [jT] at hz
  exact h2 fun k h1 h3=>hz k h1 (by omega)
theorem CJ {m:Nat} {r:List Rat} {a:Nat} {q:Rat} (hq:r[a]? = some q) (h0:q≠0) (hb:∀ x∈r,Bq m x) (hm:m+m<=134217728) (hs:r.length<=100) {Q:D->Option D->Prop} (h:Q (.lst true ((r.map (· / q)).map fr)) none) :
  jX [fU r,.int a] Q:=by
 dsimp? only [jX,fU,aC,aK,List.length_map]
 refine bC (by omega) ?_
 (try dsimp? only)
 refine bY fr (fun p=>fr (p / q)) (fun ρ => ∃ x,ρ = [x,some (.lst false (r.map fr)),some (.int a)]) ⟨_,rfl⟩ ?_ ?_
 ·rintro p hp ρ ⟨x,rfl⟩ P hP
  dsimp? only [pD hq,bw,aZ,aD]
  refine Rh h0 (hb p hp) (hb q (List.mem_of_getElem? hq)) hm ?_
  dsimp? only [aD,aZ,aC]
  exact hP _ ⟨_,rfl⟩
 ·rintro ρ ⟨x,rfl⟩
  rw [List.map_map] at h
  exact h
def qQ (r l:List Rat) (c:Rat):List Rat:=(r.zip l).map fun p=>p.1 - c*p.2
theorem xQ (r l:List Rat):mL (r.map fr) (l.map fr)=(r.zip l).map fun p=>D.tup [fr p.1,fr p.2]:=by
 simp [mL,List.zip_map]
theorem vZ {m n:Nat} {r l:List Rat} {a:Nat} {c:Rat} (hc:r[a]? = some c) (hb:∀ x∈r,Bq m x) (hl:∀ x∈l,Bq n x) (hm:m+(m+n)<=134217728) (hs:r.length<=100) {Q:D->Option D->Prop}
  (h:Q (.lst true ((qQ r l c).map fr)) none):gQ [fU r,fU l,.int a] Q:=by
 dsimp? only [gQ,fU,aC,aK,List.length_map,xQ]
 refine bC (by omega) ?_
 dsimp? only [xQ]
 refine bY (fun p:Rat×Rat=>D.tup [fr p.1,fr p.2]) (fun p=>fr (p.1 - c*p.2)) (fun ρ => ∃ x y,ρ = [x,y,some (.lst false (r.map fr)),some (.int a)]) ⟨_,_,rfl⟩ ?_ ?_
 ·rintro ⟨p,q⟩ hp ρ ⟨x,y,rfl⟩ P hP
  have hp1:=hb p (List.of_mem_zip hp).1
  have hq1:=hl q (List.of_mem_zip hp).2
  have hc1:=hb c (List.mem_of_getElem? hc)
  dsimp? only [pD hc,bw,aZ,aD]
  refine Dv hc1 hq1 (by omega) ?_
  dsimp? only [aD,aZ,bw,aC]
  refine wg hp1 (rY hc1 hq1) hm ?_
  dsimp? only [aD,aZ,bw,aC]
  exact hP _ ⟨_,_,rfl⟩
 ·rintro ρ ⟨x,y,rfl⟩
  unfold qQ at h
  rw [List.map_map] at h
  exact h
theorem vA (rs:List (List Rat)):∀ n,oF n (rs.map fU)=(rs.zipIdx n).map fun p=>D.tup [.int (p.2:Int),fU p.1]:=by
 induction rs with
 | nil=>intro n;rfl
 | cons r rs ih=>intro n;rw [List.map_cons,oF,ih (n+1),List.zipIdx_cons,List.map_cons]
theorem aF (rs:List (List Rat)):D.fzs (rs.map fU)=rs.map fU:=jh fU aO rs
theorem aG (rs:List (List Rat)):D.shs (rs.map fU)=true:=gm fU aN rs
theorem sE {α : Type} (gI : α -> D) (R : α -> D->Prop) {g:fX} {el:bU} (S:En->Prop):∀ {xs:List α} {ρ : En} {Q:List D->En->Prop},S ρ ->
  (∀ x∈xs,∀ ρ,S ρ -> ∀ P:D->En->Prop,(∀ d ρ',R x d->S ρ'->P d ρ')->g (gI x) ρ fun ρ1=>el ρ1 P) ->
  (∀ ds ρ',ds.length=xs.length->(∀ (i:Nat) x d,xs[i]? = some x->ds[i]? = some d->R x d)->S ρ'->Q ds ρ')->jz g fu el (xs.map gI) ρ Q
 | [],ρ,Q,h0,_,hQ=>hQ [] ρ rfl (fun i x d e=>by simp at e) h0
 | x :: xs,ρ,Q,h0,hs,hQ=>by
  show g (gI x) ρ fun ρ1=>el ρ1 fun y ρ3=>jz g fu el (xs.map gI) ρ3 fun ys ρ4=>Q (y :: ys) ρ4
  refine hs x List.mem_cons_self ρ h0 _ fun d ρ' hd h'=>?_
  refine sE gI R S h' (fun d' hd'=>hs d' (List.mem_cons_of_mem _ hd')) fun ds ρ2 hl hr h2=>hQ (d :: ds) ρ2 (by simp [hl]) (fun i y e h3 h4=>?_) h2
  cases i with
  | zero=>simp at h3 h4;subst h3;subst h4;exact hd
  | succ i=>exact hr i y e (by simpa using h3) (by simpa using h4)
def eF (ds:List D) (rs:List (List Rat)):Prop:=ds.length=rs.length ∧ ∀ (i:Nat) (r:List Rat),rs[i]? = some r -> ∃ o,ds[i]? = some (.lst o (r.map fr))
def jw (rs:List (List Rat)) (a:Nat) (l:List Rat) (i:Nat) (r:List Rat):List Rat:=if i=a then l else qQ r l (r.getD a 0)
theorem Ea {m:Nat} {rs:List (List Rat)} {a:Nat} {ra:List Rat} {q:Rat} (ha:rs[a]? = some ra) (hq:ra[a]? = some q) (h0:q≠0) (hb:∀ r∈rs,∀ x∈r,Bq m x) (hm:4*m<=134217728) (hs:∀ r∈rs,a<r.length∧r.length<=100) (hn:rs.length<=100) {Q:D->Option D->Prop}
  (h:∀ ds,eF ds ((rs.zipIdx).map fun p=>jw rs a (ra.map (· / q)) p.2 p.1)->Q (.lst true ds) none):my [.lst false (rs.map fU),.int a] Q:=by
 have hra:ra∈rs:=List.mem_of_getElem? ha
 dsimp? only [my,Cy ha,aO]
 refine CJ hq h0 (hb ra hra) (by omega) (hs ra hra).2 ?_
 dsimp? only [aF,aG,List.length_map,aK,aC,au,vA]
 refine bC (by omega) ?_
 dsimp? only [vA]
 refine sE (fun p:List Rat×Nat=>D.tup [.int (p.2:Int),fU p.1]) (fun p d=>∃ o,d = .lst o ((jw rs a (ra.map (· / q)) p.2 p.1).map fr))
  (fun ρ => ∃ x y o,ρ = [x,y,some (.int a),some (.lst o ((ra.map (· / q)).map fr))]) ⟨_,_,_,rfl⟩ ?_ ?_
 ·rintro ⟨r,i⟩ hp ρ ⟨x,y,o,rfl⟩ P hP
  have hr:r∈rs:=(List.mem_zipIdx' hp).2 ▸ List.getElem_mem _
  dsimp? only
  refine vN (fun hc=>?_) fun hc=>?_
  ·have e:i=a:=by
    have:(i:Int)=(a:Int):=by simpa using hc
    omega
   have ec:jw rs a (ra.map (· / q)) i r=ra.map (· / q):=by unfold jw;rw [if_pos e]
   cases o with
   | true=>
    dsimp? only [aC,aK]
    exact hP _ _ ⟨false,by rw [ec]⟩ ⟨_,_,_,rfl⟩
   | false=>
    dsimp? only [aC,aK]
    exact hP _ _ ⟨false,by rw [ec]⟩ ⟨_,_,_,rfl⟩
  ·have e:i≠a:=by
    rintro rfl
    simp at hc
   have hal:=(hs r hr).1
   have hc2:r[a]? = some (r.getD a 0):=by rw [List.getD_eq_getElem?_getD,List.getElem?_eq_getElem hal];rfl
   have ec:jw rs a (ra.map (· / q)) i r=qQ r (ra.map (· / q)) (r.getD a 0):=by unfold jw;rw [if_neg e]
   dsimp? only [aC,aK,aO]
   refine vZ (m:=m) (n:=m+m) hc2 (hb r hr) (fun x hx=>?_) (by omega) (hs r hr).2 ?_
   ·obtain ⟨z,hz,rfl⟩:=List.mem_map.mp hx
    exact JS (hb ra hra z hz) (hb ra hra q (List.mem_of_getElem? hq)) h0
   ·dsimp? only [au]
    exact hP _ _ ⟨true,by rw [ec]⟩ ⟨_,_,_,rfl⟩
 ·rintro ds ρ hl hR ⟨x,y,o,rfl⟩
  refine h ds ⟨by rw [hl,List.length_map],fun i r hi=>?_⟩
  rw [List.getElem?_map] at hi
  obtain ⟨p,hp,rfl⟩:=Option.map_eq_some_iff.mp hi
  have hlt:i<ds.length:=by rw [hl];exact (List.getElem?_eq_some_iff.mp hp).1
  obtain ⟨o',e⟩:=hR i p _ hp (List.getElem?_eq_getElem hlt)
  exact ⟨o',by rw [List.getElem?_eq_getElem hlt,e]⟩
end Z
namespace Z
open PySem L2 TM
theorem eF.fz {ds:List D} {rs:List (List Rat)} (h:eF ds rs):D.fzs ds=rs.map fU:=by
 rw [D.fzs_eq]
 apply List.ext_getElem?
 intro i
 rw [List.getElem?_map,List.getElem?_map]
 by_cases hi:i<rs.length
 ·have hr:=List.getElem?_eq_getElem hi
  obtain ⟨o,e⟩:=h.2 i _ hr
  rw [e,hr]
  show some (D.fz (.lst o _))=some _
  rw [D.fz,aK];rfl
 ·have h1:ds[i]? = none:=List.getElem?_eq_none (by have:=h.1;omega)
  have h2:rs[i]? = none:=List.getElem?_eq_none (by omega)
  rw [h1,h2];rfl
theorem eF.get {ds:List D} {rs:List (List Rat)} (h:eF ds rs) {i:Nat} {r:List Rat} (e:rs[i]? = some r):∃ o,ds[i]? = some (.lst o (r.map fr)):=h.2 i r e
def mvR {α : Type} (rs:List α) (a k:Nat) (r : α):List α:=(rs.eraseIdx k).take a++r :: (rs.eraseIdx k).drop a
theorem uF {α : Type} {rs:List α} {a k:Nat} {r : α} (hk:k<rs.length):(mvR rs a k r).length=rs.length:=by
 unfold mvR
 rw [List.length_append,List.length_cons,List.length_take,List.length_drop,List.length_eraseIdx]
 rw [if_pos hk]
 omega
theorem qW {α : Type} {rs:List α} {a k i:Nat} {r : α} (ha:a<=k) (hr:rs[k]? = some r):(mvR rs a k r)[i]? = rs[mv a k i]?:=by
 have hk:=(List.getElem?_eq_some_iff.mp hr).1
 have hl:((rs.eraseIdx k).take a).length=a:=by rw [List.length_take,List.length_eraseIdx,if_pos hk];omega
 unfold mvR mv
 by_cases e:i=a
 ·subst e
  rw [if_pos rfl,List.getElem?_append_right (by omega),hl,Nat.sub_self,List.getElem?_cons_zero,hr]
 ·rw [if_neg e]
  by_cases f:i<a
  ·rw [List.getElem?_append_left (by omega),List.getElem?_take_of_lt f,List.getElem?_eraseIdx_of_lt (by omega),if_neg (by omega)]
  ·rw [List.getElem?_append_right (by omega),hl]
   obtain ⟨j,hj⟩:∃ j,i - a=j+1:=⟨i - a - 1,by omega⟩
   rw [hj,List.getElem?_cons_succ,List.getElem?_drop]
   have e2:a+j=i - 1:=by omega
   rw [e2]
   by_cases g:i<=k
   ·rw [if_pos (by omega),List.getElem?_eraseIdx_of_lt (by omega)]
   ·rw [if_neg (by omega),List.getElem?_eraseIdx_of_ge (by omega)]
    congr 1
    omega
theorem eF.move {ds:List D} {rs:List (List Rat)} (h:eF ds rs) {a k:Nat} {r:List Rat} {d:D} (ha:a<=k) (hr:rs[k]? = some r) (hd:ds[k]? = some d):eF (mvR ds a k d) (mvR rs a k r):=by
 have hk:=(List.getElem?_eq_some_iff.mp hr).1
 refine ⟨by rw [uF hk,uF (by rw [h.1];exact hk)];exact h.1,fun i r' e=>?_⟩
 rw [qW ha hr] at e
 rw [qW ha hd]
 exact h.2 _ r' e
theorem jg {rs:List (List Rat)} {i j:Nat}:ent rs i j=((rs[i]?).getD []).getD j 0:=by
 unfold ent
 have:rs.getD i []=(rs[i]?).getD []:=List.getD_eq_getElem?_getD
 rw [this]
theorem Kq {rs:List (List Rat)} {a k:Nat} {r:List Rat} (ha:a<=k) (hr:rs[k]? = some r):ent (mvR rs a k r)=moved a k (ent rs):=by
 funext i j
 unfold moved
 rw [jg,jg,qW ha hr]
def sz (m:Nat):Nat->Nat
 | 0=>m
 | k+1=>4*sz m k+1
theorem Yx {m:Nat} (hm:m<=30000):∀ k,k<=5->4*sz m k<=134217728
 | 0,_=>by simp only [sz];omega
 | 1,_=>by simp only [sz];omega
 | 2,_=>by simp only [sz];omega
 | 3,_=>by simp only [sz];omega
 | 4,_=>by simp only [sz];omega
 | 5,_=>by simp only [sz];omega
 | k+6,h=>by omega
def iG (rs:List (List Rat)) (a:Nat) (ra:List Rat) (q:Rat):List (List Rat):=(rs.zipIdx).map fun p=>jw rs a (ra.map (· / q)) p.2 p.1
theorem Ba {rs:List (List Rat)} {a i:Nat} {ra r:List Rat} {q:Rat} (h:rs[i]? = some r):(iG rs a ra q)[i]? = some (jw rs a (ra.map (· / q)) i r):=by
 unfold iG
 rw [List.getElem?_map,List.getElem?_zipIdx,h];simp
theorem Bb {rs:List (List Rat)} {a:Nat} {ra:List Rat} {q:Rat}:(iG rs a ra q).length=rs.length:=by simp [iG]
theorem yD {l:List Rat} {g:Rat->Rat} {j:Nat} (h:j<l.length):(l.map g).getD j 0=g (l.getD j 0):=by
 rw [List.getD_eq_getElem?_getD,List.getD_eq_getElem?_getD,List.getElem?_map,List.getElem?_eq_getElem h];rfl
theorem Je {r l:List Rat} {c:Rat} {j:Nat} (h1:j<r.length) (h2:j<l.length):(qQ r l c).getD j 0=r.getD j 0 - c*l.getD j 0:=by
 unfold qQ
 have e1:=List.getElem?_eq_getElem h1
 have e2:=List.getElem?_eq_getElem h2
 have e3:(r.zip l)[j]? = some (r[j],l[j]):=List.getElem?_zip_eq_some.mpr ⟨e1,e2⟩
 rw [List.getD_eq_getElem?_getD,List.getD_eq_getElem?_getD,List.getD_eq_getElem?_getD,List.getElem?_map,e3,e1,e2]
 rfl
theorem Jf {r l:List Rat} {c:Rat} (h:r.length=l.length):(qQ r l c).length=r.length:=by simp [qQ,h]
theorem IK {rs:List (List Rat)} {a w:Nat} {ra:List Rat} {q:Rat} (hw:∀ r∈rs,r.length=w) (ha:rs[a]? = some ra) (hq:ra[a]? = some q) {i j:Nat} (hi:i<rs.length) (hj:j<w) :
  ent (iG rs a ra q) i j=clear a (ent rs) i j:=by
 have hr:=List.getElem?_eq_getElem hi
 have hm:=List.getElem_mem hi
 generalize rs[i]=r at hr hm
 have lr:=hw r hm
 have la:=hw ra (List.mem_of_getElem? ha)
 have eaa:ent rs a a=q:=zf ha hq
 rw [jg,Ba hr,Option.getD_some]
 unfold clear jw
 have haw:a<w:=by rw [← la];exact (List.getElem?_eq_some_iff.mp hq).1
 have era:∀ j,ent rs a j=ra.getD j 0:=fun j=>by rw [jg,ha,Option.getD_some]
 have er:∀ j,ent rs i j=r.getD j 0:=fun j=>by rw [jg,hr,Option.getD_some]
 by_cases e:i=a
 ·rw [if_pos e,if_pos e,yD (by omega),eaa,era]
 ·rw [if_neg e,if_neg e,Je (by omega) (by rw [List.length_map];omega),yD (by omega),eaa,era,er,er]
end Z
namespace Z
open PySem L2 TM
theorem Jd {r:List Rat} {n:Nat} {o:Bool} (h:r.length=n+1):ixF (.lst o (r.map fr)) (-1)=some (fr (r.getD n 0),none):=by
 refine ji _ _ ?_ (aZ _)
 unfold atI ixN
 rw [List.length_map,h,if_neg (by omega),if_pos (by omega)]
 have e:((-1:Int)+((n+1:Nat):Int)).toNat=n:=by omega
 rw [e]
 show (r.map fr)[n]? = _
 have hl:n<r.length:=by omega
 rw [List.getElem?_map,List.getD_eq_getElem?_getD,List.getElem?_eq_getElem hl];rfl
theorem Ez {ds:List D} {k:Nat} {d:D} (h:ds[k]? = some d) (hs:k<=100):vY ds [.int (k:Int)]=some (ds.eraseIdx k,d):=by
 have hl:=(List.getElem?_eq_some_iff.mp h).1
 have e:ixN ds.length (k:Int)=some k:=by unfold ixN;rw [if_pos (by omega),if_pos (by omega)];simp
 have p63:(2:Int) ^ 63=9223372036854775808:=by decide
 unfold vY
 dsimp only
 rw [if_pos (by simp only [Bool.and_eq_true,decide_eq_true_eq,p63];omega),e,Option.bind_some,h];rfl
theorem oN {ds:List D} {a:Nat} {d:D} (h:a<=ds.length) (hs:ds.length<=100):lB ds [.int (a:Int),d]=some (ds.take a++d :: ds.drop a,.non):=by
 have e:vK ds.length (a:Int)=a:=by unfold vK;rw [if_neg (by omega)];simp;omega
 have p63:(2:Int) ^ 63=9223372036854775808:=by decide
 unfold lB
 dsimp only
 rw [if_pos (by simp only [Bool.and_eq_true,decide_eq_true_eq,sizeLine_eq,p63];omega),e]
def mQ (tb:List (List Rat)) (b:List Rat):List (List Rat):=(tb.zip b).map fun p=>p.1++[p.2]
theorem JQ {tb:List (List Rat)} {b:List Rat} (h:tb.length=b.length):(mQ tb b).length=tb.length:=by simp [mQ,h]
theorem Av {tb:List (List Rat)} {b:List Rat} {i:Nat} {r:List Rat} {x:Rat} (h1:tb[i]? = some r) (h2:b[i]? = some x):(mQ tb b)[i]? = some (r++[x]):=by
 have e3:(tb.zip b)[i]? = some (r,x):=List.getElem?_zip_eq_some.mpr ⟨h1,h2⟩
 unfold mQ;rw [List.getElem?_map,e3];rfl
theorem Py (tb:List (List Rat)) (b:List Rat):mL (tb.map fU) (b.map fr)=(tb.zip b).map fun p=>D.tup [fU p.1,fr p.2]:=by
 simp [mL,List.zip_map]
theorem uG {α : Type} {rs:List α} {a k:Nat} {r x : α} (hr:r∈rs) (h:x∈mvR rs a k r):x∈rs:=by
 unfold mvR at h
 rcases List.mem_append.mp h with h | h
 ·exact List.mem_of_mem_eraseIdx (List.mem_of_mem_take h)
 ·rcases List.mem_cons.mp h with h | h
  ·rw [h];exact hr
  ·exact List.mem_of_mem_eraseIdx (List.mem_of_mem_drop h)
theorem tM {m w a:Nat} {rs:List (List Rat)} {ra:List Rat} {q:Rat} (hw:∀ r∈rs,r.length=w) (hb:∀ r∈rs,∀ x∈r,Bq m x) (ha:rs[a]? = some ra) (hq:ra[a]? = some q) (h0:q≠0) {r:List Rat} (h:r∈iG rs a ra q):r.length=w ∧ ∀ x∈r,Bq (4*m+1) x:=by
 unfold iG at h
 obtain ⟨⟨r',i⟩,hp,rfl⟩:=List.mem_map.mp h
 have hr:r'∈rs:=(List.mem_zipIdx' hp).2 ▸ List.getElem_mem _
 have hra:ra∈rs:=List.mem_of_getElem? ha
 have hqm:q∈ra:=List.mem_of_getElem? hq
 have hd:∀ x∈ra.map (· / q),Bq (m+m) x:=fun x hx=>by
  obtain ⟨z,hz,rfl⟩:=List.mem_map.mp hx
  exact JS (hb ra hra z hz) (hb ra hra q hqm) h0
 show (jw rs a (ra.map (· / q)) i r').length=w ∧ ∀ x∈jw rs a (ra.map (· / q)) i r',_
 unfold jw
 by_cases e:i=a
 ·rw [if_pos e]
  exact ⟨by rw [List.length_map];exact hw ra hra,fun x hx=>(hd x hx).mono (by omega)⟩
 ·rw [if_neg e]
  have lr:=hw r' hr
  have la:=hw ra hra
  refine ⟨by rw [Jf (by rw [List.length_map,lr,la])];exact lr,fun x hx=>?_⟩
  unfold qQ at hx
  obtain ⟨⟨u,v⟩,hp2,rfl⟩:=List.mem_map.mp hx
  have hu:=hb r' hr u (List.of_mem_zip hp2).1
  have hv:=hd v (List.of_mem_zip hp2).2
  have haw:a<r'.length:=by rw [lr,← la];exact (List.getElem?_eq_some_iff.mp hq).1
  have hc:Bq m (r'.getD a 0):=by
   rw [List.getD_eq_getElem?_getD,List.getElem?_eq_getElem haw]
   exact hb r' hr _ (List.getElem_mem haw)
  exact (yS hu (rY hc hv)).mono (by omega)
theorem Cp {n:Nat} {A B:Mx} {s:Rat} {y:Nat->Rat} (h:∀ i j,i<n->j<n+1->A i j=B i j):Gives n A s y↔Gives n B s y:=by
 unfold TM.Gives
 constructor
 ·intro g i hi
  rw [← h i n hi (by omega),← g i hi]
  exact bQ n fun j hj=>by rw [h i j hi (by omega)]
 ·intro g i hi
  rw [h i n hi (by omega),← g i hi]
  exact bQ n fun j hj=>by rw [h i j hi (by omega)]
theorem Iv {n:Nat} {A B:Mx} (h:∀ i j,i<n->j<n+1->A i j=B i j) (d:Dep n A):Dep n B:=by
 obtain ⟨w,h1,h2⟩:=d
 exact ⟨w,h1,fun j hj=>by rw [← h2 j hj];exact bQ n fun i hi=>by rw [h i j hi (by omega)]⟩
theorem FW {n k:Nat} {A B:Mx} (hk:k<=n) (h:∀ i j,i<n->j<n+1->A i j=B i j) (u:Unit n k A):Unit n k B:=fun i j hi hj=>by rw [← h i j hi (by omega)];exact u i j hi hj
structure Inv (n m k:Nat) (A:Mx) (rs:List (List Rat)):Prop where
 len:rs.length=n
 w:∀ r∈rs,r.length=n+1
 b:∀ r∈rs,∀ x∈r,Bq (sz m k) x
 u:Unit n k (ent rs)
 g:∀ s y,Gives n (ent rs) s y↔Gives n A s y
 d:Dep n A->Dep n (ent rs)
theorem Inv.step {n m a k:Nat} {A:Mx} {rs:List (List Rat)} {ra:List Rat} {q:Rat} (I:Inv n m a A rs) (ha:a<=k) (hk:k<n) (hr:rs[k]? = some ra) (hq:ra[a]? = some q) (h0:q≠0) :
  Inv n m (a+1) A (iG (mvR rs a k ra) a ra q):=by
 have hm:ra∈rs:=List.mem_of_getElem? hr
 have l1:(mvR rs a k ra).length=n:=by rw [uF (by rw [I.len];exact hk)];exact I.len
 have w1:∀ r∈mvR rs a k ra,r.length=n+1:=fun r h=>I.w r (uG hm h)
 have b1:∀ r∈mvR rs a k ra,∀ x∈r,Bq (sz m a) x:=fun r h=>I.b r (uG hm h)
 have e1:(mvR rs a k ra)[a]? = some ra:=by rw [qW ha hr];unfold mv;rw [if_pos rfl];exact hr
 have e2:=Kq ha hr
 have eq0:ent rs k a=q:=zf hr hq
 have p:(moved a k (ent rs)) a a≠0:=by
  unfold moved mv
  rw [if_pos rfl,eq0];exact h0
 have e3:∀ i j,i<n->j<n+1->clear a (moved a k (ent rs)) i j=ent (iG (mvR rs a k ra) a ra q) i j:=fun i j hi hj=>by
  rw [IK w1 e1 hq (by rw [l1];exact hi) hj,e2]
 exact {
  len:=by rw [Bb,l1]
  w:=fun r h=>(tM w1 b1 e1 hq h0 h).1
  b:=fun r h=>(tM w1 b1 e1 hq h0 h).2
  u:=FW (by omega) e3 (JL I.u ha hk (by rw [eq0];exact h0))
  g:=fun s y=>by rw [← Cp e3,Cm (by omega) p,Cq ha hk];exact I.g s y
  d:=fun h=>Iv e3 (Iu (by omega) p (Iw ha hk (I.d h))) }
theorem JC {m n:Nat} {tb:List (List Rat)} {b:List Rat} (hn:tb.length=n) (hbn:b.length=n) (hr:∀ r∈tb,r.length=n) (h5:n<=5) (hm':m<=30000) (hB:∀ r∈tb,∀ x∈r,Bq m x) (hB2:∀ x∈b,Bq m x) {Q:D->Option D->Prop}
  (h1:(∃ y:Nat->Rat,(∃ i,i<n∧y i≠0)∧Gives n (ent (mQ tb b)) 0 y)->Q .non none)
  (h2:∀ sol:List Rat,sol.length=n->Gives n (ent (mQ tb b)) 1 (fun i=>sol.getD i 0)->(∀ y,Gives n (ent (mQ tb b)) 1 y -> ∀ i,i<n->y i=sol.getD i 0) -> ¬ Dep n (ent (mQ tb b))->(∀ x∈sol,Bq (sz m n) x)->Q (.lst true (sol.map fr)) none) :
  oU [.lst false (tb.map fU),.lst false (b.map fr)] Q:=by
 dsimp? only [oU,aG,aF,aC,aK,List.length_map,hn]
 refine bC (by omega) ?_
 dsimp? only [Py]
 refine sE (fun p:List Rat×Rat=>D.tup [fU p.1,fr p.2]) (fun p d=>d = .lst true ((p.1++[p.2]).map fr)) (fun ρ => ∃ x y,ρ = [x,y]) ⟨_,_,rfl⟩ ?_ ?_
 ·rintro ⟨r,x⟩ hp ρ ⟨y,z,rfl⟩ P hP
  have hl:=hr r (List.of_mem_zip hp).1
  dsimp? only [fU,aC,aZ]
  refine JR (iH _ _ _ _ (by rw [sizeLine_eq,List.length_map,hl];show n+1<=_;omega) (aC r) (by simp [D.shs,aZ])) ?_
  (try dsimp? only)
  exact hP _ _ (by rw [List.map_append];rfl) ⟨_,_,rfl⟩
 ·rintro ds ρ hl hR ⟨x,y,rfl⟩
  have hR0:eF ds (mQ tb b):=by
   refine ⟨by rw [hl];simp [mQ],fun i r hi=>?_⟩
   unfold mQ at hi
   rw [List.getElem?_map] at hi
   obtain ⟨p,hp,rfl⟩:=Option.map_eq_some_iff.mp hi
   have hlt:i<ds.length:=by rw [hl];exact (List.getElem?_eq_some_iff.mp hp).1
   have e:=hR i p _ hp (List.getElem?_eq_getElem hlt)
   exact ⟨true,by rw [List.getElem?_eq_getElem hlt,e]⟩
  have I0:Inv n m 0 (ent (mQ tb b)) (mQ tb b):={
   len:=by rw [JQ (by rw [hn,hbn]),hn]
   w:=fun r h=>by
    obtain ⟨⟨r',x⟩,hp,rfl⟩:=List.mem_map.mp h
    rw [List.length_append,hr r' (List.of_mem_zip hp).1];rfl
   b:=fun r h z hz=>by
    obtain ⟨⟨r',x⟩,hp,rfl⟩:=List.mem_map.mp h
    rcases List.mem_append.mp hz with hz | hz
    ·exact hB r' (List.of_mem_zip hp).1 z hz
    ·rw [List.mem_singleton.mp hz];exact hB2 x (List.of_mem_zip hp).2
   u:=fun i j _ hj=>absurd hj (by omega)
   g:=fun s y=>Iff.rfl
   d:=id }
  generalize hA:ent (mQ tb b)=A at h1 h2 I0
  dsimp? only [List.length_map,hn]
  refine bC ⟨by omega,by omega,by omega⟩ ?_
  (try dsimp? only)
  refine cR (fun k ρ => ∃ ds rs x y,ρ = [some (.lst false (tb.map fU)),some (.lst false (b.map fr)),some (.lst true ds),x,y]∧eF ds rs∧Inv n m k A rs) 0 ⟨ds,mQ tb b,_,_,rfl,hR0,I0⟩ ?_ ?_
  ·rintro k d ρ hd ⟨ds,rs,x,y,rfl,hR,I⟩ P hP
   obtain ⟨hk,rfl⟩:=iK hd
   simp only [Nat.zero_add] at I
   have e0:(0:Int)+(k:Int)=(k:Int):=by omega
   dsimp? only [e0,hR.fz]
   refine vU I.len (by omega) (by omega) (fun r h=>by rw [I.w r h];omega) (fun l h3 h4 _ h6=>?_) fun hz=>?_
   ·have hlt:l<rs.length:=by rw [I.len];exact h4
    have hg:=List.getElem?_eq_getElem hlt
    generalize rs[l]=ra at hg
    have hkl:k<ra.length:=by rw [I.w ra (List.mem_of_getElem? hg)];omega
    have hq:=List.getElem?_eq_getElem hkl
    generalize ra[k]=q at hq
    rw [zf hg hq] at h6
    obtain ⟨o,hd⟩:=hR.get hg
    have hdl:ds.length=n:=by rw [hR.1,I.len]
    dsimp? only [Int.zero_add,Ez hd (by omega),oN (ds:=ds.eraseIdx l) (a:=k) (d:=.lst o (ra.map fr)) (by rw [List.length_eraseIdx,if_pos (by omega)];omega) (by rw [List.length_eraseIdx,if_pos (by omega)];omega)]
    rw [show (ds.eraseIdx l).take k++D.lst o (ra.map fr) :: (ds.eraseIdx l).drop k=mvR ds k l (D.lst o (ra.map fr)) from rfl]
    have hR1:=hR.move h3 hg hd
    have I1:=I.step h3 h4 hg hq h6
    have hm:ra∈rs:=List.mem_of_getElem? hg
    rw [hR1.fz]
    refine Ea (m:=sz m k) (by rw [qW h3 hg];unfold mv;rw [if_pos rfl];exact hg) hq h6 (fun r h=>I.b r (uG hm h)) (Yx hm' k (by omega)) (fun r h=>by rw [I.w r (uG hm h)];omega) (by rw [uF hlt,I.len];omega) fun ds2 hR2=>?_
    have hR3:eF ds2 (iG (mvR rs k l ra) k ra q):=hR2
    have I2:Inv n m (0+k+1) A (iG (mvR rs k l ra) k ra q):=by rw [Nat.zero_add];exact I1
    cases hcl:D.cleans ds2 with
    | true=>
     dsimp? only [hcl]
     exact hP _ ⟨_,_,_,_,rfl,hR3,I2⟩
    | false=>
     dsimp? only [hcl]
     exact hP _ ⟨_,_,_,_,rfl,hR3,I2⟩
   ·dsimp? only
    refine h1 ?_
    obtain ⟨y,hy,hg⟩:=stuck I.u (by omega) hz
    exact ⟨y,hy,(I.g 0 y).mp hg⟩
  ·rintro ρ ⟨ds,rs,x,y,rfl,hR,I⟩
   rw [jT,Nat.zero_add] at I
   have e5:(n:Int).toNat=n:=by omega
   rw [e5] at I
   dsimp? only [hR.fz,aF,aG,List.length_map,I.len]
   refine bC (by omega) ?_
   (try dsimp? only)
   refine bY fU (fun r=>fr (r.getD n 0)) (fun ρ => ∃ x,ρ = [x]) ⟨_,rfl⟩ ?_ ?_
   ·rintro r hrm ρ ⟨x,rfl⟩ P hP
    have hl1:=I.w r hrm
    dsimp? only [fU,Int.reduceNeg,Jd hl1]
    exact hP _ ⟨_,rfl⟩
   ·rintro ρ ⟨x,rfl⟩
    have e6:rs.map (fun r=>fr (r.getD n 0))=(rs.map fun r=>r.getD n 0).map fr:=by rw [List.map_map];rfl
    have e7:∀ i,i<n->ent rs i n=(rs.map fun r=>r.getD n 0).getD i 0:=fun i hi=>by
     have hlt:i<rs.length:=by rw [I.len];exact hi
     have hg:=List.getElem?_eq_getElem hlt
     have e8:(rs.map fun r=>r.getD n 0)[i]? = some (rs[i].getD n 0):=by rw [List.getElem?_map,hg];rfl
     have e9:(rs.map fun r=>r.getD n 0).getD i 0=((rs.map fun r=>r.getD n 0)[i]?).getD 0:=List.getD_eq_getElem?_getD
     rw [jg,hg,e9,e8];rfl
    rw [e6]
    refine h2 _ (by rw [List.length_map,I.len]) ?_ (fun y hy i hi=>?_) (fun hd=>Ga I.u (I.d hd)) fun x hx=>?_
    ·refine (I.g 1 _).mp ?_
     have:=FZ I.u
     intro i hi
     rw [← this i hi]
     exact bQ n fun j hj=>by dsimp only;rw [e7 j hj]
    ·rw [← e7 i hi]
     exact Ek I.u ((I.g 1 y).mpr hy) i hi
    ·obtain ⟨r,hr1,rfl⟩:=List.mem_map.mp hx
     have hl1:=I.w r hr1
     refine I.b r hr1 _ ?_
     rw [List.getD_eq_getElem?_getD,List.getElem?_eq_getElem (by omega)]
     exact List.getElem_mem _
end Z
namespace Z
open PySem L2 TM
def Bag (d:D):Prop:=∃ a b:Int,d = .lst true [.int a,.int b]∧0<=b∧b<2147483647
theorem iY {n:Nat} {i:Int} {m:Nat} (h:i.natAbs<m) (e:m<=2 ^ n):Bd n i:=Nat.lt_of_lt_of_le h e
theorem uw {i j:Int} (h1:0<=j) (h2:j<=1000000) (h3:i.natAbs<2 ^ 64):um [.int i,.int j]=some (.int (i ^ j.toNat)):=by
 show (if _ then _ else _)=_
 rw [if_pos (by simp only [Bool.and_eq_true,decide_eq_true_eq];exact ⟨⟨h1,h2⟩,h3⟩)]
theorem XX:um [.int 10,.int 18]=some (.int ((10:Int) ^ (18:Int).toNat)):=uw (by decide) (by decide) (by decide)
theorem jQ {x m:Int} (h:0<m):0<=x.fmod m∧x.fmod m<m:=⟨Int.fmod_nonneg_of_pos x h,Int.fmod_lt_of_pos x h⟩
theorem Mj (a:Int) (xs:List D) (o:Bool):ixF (.lst o (.int a :: xs)) 0=some (.int a,none):=Er _ _ _ rfl
theorem Ml (a:Int) (x:D) (xs:List D) (o:Bool):ixF (.lst o (x :: .int a :: xs)) 1=some (.int a,none):=Es _ _ _ _ rfl
theorem cF {bag:D} {many:Nat} (hB:Bag bag) (hm:0<many) {Q:D->Option D->Prop} (h:∀ (bag':D) (r:Nat),Bag bag'->r<many->Q (.int r) (some bag')):bh [bag,.int many] Q:=by
 obtain ⟨a,b,rfl,hb1,hb2⟩:=hB
 have hm0:(many:Int)≠0:=by omega
 have hr:∀ x:Int,∃ r:Nat,x.fmod many=(r:Int)∧r<many:=fun x=>by
  obtain ⟨h1,h2⟩:=jQ (x:=x) (m:=(many:Int)) (by omega)
  exact ⟨(x.fmod many).toNat,by omega,by omega⟩
 dsimp? only [bh,Mj,Ml]
 refine lA (fun hc=>?_) fun hc=>?_
 ·obtain ⟨r,e,hr⟩:=hr a
  dsimp? only [Mj,Ml,hm0,e]
  exact h _ r ⟨_,_,rfl,hb1,hb2⟩ hr
 ·have c1:iw b 48271=true:=cb (m:=31) (n:=16) (iY (m:=2147483647) (by omega) (by decide)) (iY (m:=48272) (by decide) (by decide)) (by decide)
  obtain ⟨h1,h2⟩:=jQ (x:=b*48271+7919) (m:=2147483647) (by decide)
  dsimp? only [Mj,Ml,c1,Int.reduceEq]
  generalize (b*48271+7919).fmod 2147483647=b' at h1 h2
  rw [uw (by decide) (by decide) (by omega)]
  obtain ⟨h3,h4⟩:=jQ (x:=b' ^ 3) (m:=2147483587) (by decide)
  dsimp? only [Mj,Ml,Int.reduceEq]
  generalize (b' ^ 3).fmod 2147483587=z at h3 h4
  have c2:iw (z.fdiv 7) 69621=true:=by
   refine cb (m:=31) (n:=17) (iY (m:=2147483647) ?_ (by decide)) (iY (m:=69622) (by decide) (by decide)) (by decide)
   rw [Int.fdiv_eq_ediv_of_nonneg z (by decide)];omega
  obtain ⟨r,e,hr⟩:=hr ((z.fdiv 7*69621).fmod 1073741789)
  dsimp? only [Mj,Ml,c2,Int.reduceEq,hm0,e]
  exact h _ r ⟨_,_,rfl,h1,h2⟩ hr
def yR:cD:=
 aR (bK 3 (sDo kW [.val (sDo um [.val (sDo cI [.val (sDo cI [.val (sDo kW [.nam 2,.val (sC (.int 2147483629))]),.val (sDo dH [.val (sC (.int 104729)),.nam 1])]),.val (sC (.int 17))]),.val (sC (.int 5))]),.val (sC (.int 2147483647))]))
 (aR (il (cZ (.val (sDo Br [.val (sDo lL [.nam 0]),.val (sC (.int 60))]))) (gN 4)
 (bK 3 (sDo kW [.val (sDo cI [.val (sDo cI [.val (sDo dH [.nam 3,.val (sC (.int 48271))]),.val (sDo dH [.val (sDo kW [.val (aW 0 (.nam 4)),.val (sC (.int 2147483587))]),.val (sDo cI [.nam 4,.val (sC (.int 3))])])]),.nam 4]),.val (sC (.int 2147483629))])))
 (aR (sIf (tB' (sDo dLt [.nam 2,.val (sDo um [.val (sC (.int 10)),.val (sC (.int 18))])]))
 (bK 2 (sC (.int 0)))
 (eO))
 (cT (fH [.val (cC 2),.val (cC 3)]))))
theorem Ex {ns:List Int} {i:Nat} (hi:i<=100) (hl:ns.length<=63) {Q:D->Option D->Prop} (h:∀ bag:D,Bag bag->Q bag none):jW [.scr ns,.int i] Q:=by
 have tail:∀ x:Int,yR [some (.scr ns),some (.int i),some (.int x),none,none] ⟨fun ρ => Q .non (qN false ρ),fun d ρ => Q d (qN false ρ),fun _=>False,fun _=>False⟩:=by
  intro x
  obtain ⟨h1,h2⟩:=jQ (x:=x) (m:=2147483629) (by decide)
  have c1:iw 104729 i=true:=cb (m:=17) (n:=7) (iY (m:=104730) (by decide) (by decide)) (iY (m:=101) (by omega) (by decide)) (by decide)
  dsimp? only [yR,Int.reduceEq,c1]
  rw [uw (by decide) (by decide) (by omega)]
  dsimp? only [Int.reduceEq]
  refine bC ?_ ?_
  ·split <;> omega
  obtain ⟨h3,h4⟩:=jQ (x:=(x.fmod 2147483629+104729*(i:Int)+17) ^ 5) (m:=2147483647) (by decide)
  generalize ((x.fmod 2147483629+104729*(i:Int)+17) ^ 5).fmod 2147483647=y at h3 h4
  (try dsimp? only)
  refine cR (fun k ρ => ∃ (y:Int) (z:Option D),ρ = [some (.scr ns),some (.int i),some (.int x),some (.int y),z]∧0<=y∧y<2147483647) 0 ⟨y,_,rfl,h3,h4⟩ ?_ ?_
  ·rintro k d ρ hd ⟨y,z,rfl,h5,h6⟩ P hP
   obtain ⟨hk,rfl⟩:=iK hd
   have hk2:k<ns.length:=by revert hk;split <;> omega
   have c2:iw y 48271=true:=cb (m:=31) (n:=16) (iY (m:=2147483647) (by omega) (by decide)) (iY (m:=48272) (by decide) (by decide)) (by decide)
   obtain ⟨h7,h8⟩:=jQ (x:=ns[k]) (m:=2147483587) (by decide)
   have c3:iw (ns[k].fmod 2147483587) ((k:Int)+3)=true:=cb (m:=31) (n:=10) (iY (m:=2147483647) (by omega) (by decide)) (iY (m:=1000) (by omega) (by decide)) (by decide)
   have ex:ixF (.scr ns) (k:Int)=some (.int ns[k],none):=Hn (mO (List.getElem?_eq_getElem hk2))
   dsimp? only [Int.zero_add,Int.reduceEq,c2,ex,c3]
   obtain ⟨h9,h10⟩:=jQ (x:=y*48271+ns[k].fmod 2147483587*((k:Int)+3)+(k:Int)) (m:=2147483629) (by decide)
   exact hP _ ⟨_,_,rfl,h9,by omega⟩
  ·rintro ρ ⟨y,z,rfl,h5,h6⟩
   dsimp? only [XX]
   refine lA (fun hc=>?_) fun hc=>?_
   ·dsimp? only
    exact h _ ⟨_,_,rfl,h5,h6⟩
   ·dsimp? only
    exact h _ ⟨_,_,rfl,h5,h6⟩
 show fnS 2 3 false (aR (bK 2 (sC (.int 0))) (aR (sIf (tB' (sDo dLt [.nam 1,.val (sDo lL [.nam 0])])) (bK 2 (sDo Ed [.val (aW 0 (.nam 1))])) (eO)) yR)) _ _
 dsimp? only
 refine lA (fun hc=>?_) fun hc=>?_
 ·have ex:ixF (.scr ns) (i:Int)=some (.int (ns[i]'(by omega)),none):=Hn (mO (List.getElem?_eq_getElem (by omega)))
  dsimp? only [ex]
  exact tail _
 ·exact tail _
end Z
namespace Z
open PySem L2 TM
theorem Bag.clean {d:D} (h:Bag d):d.clean=true:=by
 obtain ⟨a,b,rfl,_⟩:=h;rfl
end Z
namespace Z
open PySem L2 TM
def Ok (n:Nat) (d:D):Prop:=d.dat.canLay0=true∧d.dat.depth<=n
def Oks (n:Nat) (ds:List D):Prop:=PyData.canLayAll0 (D.dats ds)=true∧PyData.depthAll (D.dats ds)<=n
theorem zP (n:Nat):Oks n []:=⟨by simp [D.dats,PyData.canLayAll0],by simp [D.dats,PyData.depthAll]⟩
theorem wM {n:Nat} {d:D} {ds:List D} (h:Ok n d) (hs:Oks n ds):Oks n (d :: ds):=⟨by simp [D.dats,PyData.canLayAll0,h.1,hs.1],by
 have h1:=h.2
 have h2:=hs.2
 simp only [D.dats,PyData.depthAll];omega⟩
theorem qZ {α : Type} {n:Nat} (g : α -> D) (h:∀ x,Ok n (g x)):∀ xs:List α,Oks n (xs.map g)
 | []=>zP n
 | x :: xs=>wM (h x) (qZ g h xs)
theorem wK {n:Nat} {o:Bool} {ds:List D} (h:Oks n ds):Ok (n+1) (.lst o ds):=⟨by simp [D.dat,PyData.canLay0,h.1],by
 have:=h.2
 simp only [D.dat,PyData.depth];omega⟩
theorem Vt {n:Nat} {ds:List D} (h:Oks n ds):Ok (n+1) (.tup ds):=⟨by simp [D.dat,PyData.canLay0,h.1],by
 have:=h.2
 simp only [D.dat,PyData.depth];omega⟩
theorem zM (n:Nat) (i:Int):Ok n (.int i):=⟨by simp [D.dat,PyData.canLay0],by simp [D.dat,PyData.depth]⟩
theorem Ok.mono {m n:Nat} {d:D} (h:Ok m d) (k:m<=n):Ok n d:=⟨h.1,Nat.le_trans h.2 k⟩
theorem XC (q:Rat):Ok 1 (fr q):=Vt (wM (zM 0 _) (wM (zM 0 _) (zP 0)))
theorem MP (o:Bool) (r:List Rat):Ok 2 (.lst o (r.map fr)):=wK (qZ fr XC r)
theorem Bv {d d':D} {n:Nat} (h:Ok n d) (hn:n<=64) (e:d'.dat=d.dat):dNe [d,d']=some (.bl false):=by
 have hs:∀ x:D,x.dat=d.dat->dO x=true:=fun x ex=>by
  unfold dO SeqAt.shaped
  rw [ex,h.1,Bool.true_and,decide_eq_true_eq]
  exact Nat.le_trans h.2 hn
 show (if (dO d&&dO d')=true then some (D.bl (!PyData.eqv d.dat d'.dat)) else none)=_
 rw [hs d rfl,hs d' e,e,SeqAt.eqv_refl _ h.1];rfl
def zV (r:List Rat):D:=.lst true (r.map fr)
theorem aP (r:List Rat):(zV r).fz=fU r:=by show D.lst false (D.fzs (r.map fr))=_;rw [aK];rfl
theorem aB:∀ rs:List (List Rat),D.fzs (rs.map zV)=rs.map fU
 | []=>by simp [D.fzs]
 | r :: rs=>by rw [List.map_cons,D.fzs,aP,aB rs];rfl
theorem az (r:List Rat):(zV r).clean=true:=by show (true&&D.cleans (r.map fr))=true;rw [au];rfl
theorem aq (rs:List (List Rat)):D.cleans (rs.map zV)=true:=mU zV az rs
theorem rB (n:Nat):pQ 0 n=(List.range n).map fun k=>D.int ((k:Nat):Int):=by simp [pQ]
theorem Gu {tb:List (List Rat)} {b:List Rat} {n i j:Nat} (hn:tb.length=n) (hb:b.length=n) (hr:∀ r∈tb,r.length=n) (hi:i<n) (hj:j<n):ent (mQ tb b) i j=ent tb i j:=by
 have h1:=List.getElem?_eq_getElem (l:=tb) (i:=i) (by omega)
 have h2:=List.getElem?_eq_getElem (l:=b) (i:=i) (by omega)
 have hl:=hr _ (List.getElem_mem (l:=tb) (n:=i) (by omega))
 rw [jg,jg,Av h1 h2,h1,Option.getD_some,Option.getD_some,List.getD_eq_getElem?_getD,List.getD_eq_getElem?_getD,List.getElem?_append_left (by omega)]
theorem Kp {tb:List (List Rat)} {b:List Rat} {n i:Nat} (hn:tb.length=n) (hb:b.length=n) (hr:∀ r∈tb,r.length=n) (hi:i<n):ent (mQ tb b) i n=b.getD i 0:=by
 have h1:=List.getElem?_eq_getElem (l:=tb) (i:=i) (by omega)
 have h2:=List.getElem?_eq_getElem (l:=b) (i:=i) (by omega)
 have hl:=hr _ (List.getElem_mem (l:=tb) (n:=i) (by omega))
 rw [jg,Av h1 h2,Option.getD_some,List.getD_eq_getElem?_getD,List.getElem?_append_right (by omega),hl,Nat.sub_self,List.getD_eq_getElem?_getD,h2];rfl
end Z
namespace L2
open PySem PySem.Spec PyProof.Rows
theorem Gb {P:Nat->Value->Prop} {g:Nat->V} (hg:∀ i v,P i v->RelV (g i) v) {acc:Array Value} {n:Nat} (h:ItemsOf P acc n):Vals ((List.range n).map g) acc.toList:=by
 have:∀ (vs:List V) (us:List Value),vs.length=us.length->(∀ (i:Nat) (v:V) (u:Value),vs[i]? = some v->us[i]? = some u->RelV v u)->Vals vs us:=by
  intro vs
  induction vs with
  | nil=>intro us hl _;cases us with
   | nil=>exact .nil
   | cons _ _=>simp at hl
  | cons v vs ih=>intro us hl hr;cases us with
   | nil=>simp at hl
   | cons u us=>exact .cons (hr 0 v u rfl rfl) (ih us (by simpa using hl) fun i v' u' e1 e2=>hr (i+1) v' u' (by simpa using e1) (by simpa using e2))
 refine this _ _ (by simp [h.1]) fun i v u e1 e2=>?_
 rw [List.getElem?_map] at e1
 obtain ⟨k,e3,rfl⟩:=Option.map_eq_some_iff.mp e1
 have hk:k=i:=by
  have:=List.getElem?_eq_some_iff.mp e3
  obtain ⟨h1,h2⟩:=this
  simpa using h2.symm
 subst hk
 exact hg k u (h.2 k u (by simpa using e2))
section
variable {X:Cx}
theorem zQ {a:Expr} {ta:TA} {p p2 pos pos2:Pos} (hc:X.calm=true) (hg:Gl X "list") (hm:X.mg "list" = none) (hg2:Gl X "range") (hm2:X.mg "range" = none) (ha:PA X [a] ta) (hs:starEach [a] X.env=[(false,eval a X.env)]:=by rfl)
  (hs2:starEach [.Call (.Name "range" p2) [a] [] pos2] X.env=[(false,eval (.Call (.Name "range" p2) [a] [] pos2) X.env)]:=by rfl) :
  PE X (.Call (.Name "list" p) [.Call (.Name "range" p2) [a] [] pos2] [] pos) (fun σ H Q=>ta σ H fun vs H1=>∃ j:Int,vs=[.int j] ∧ -(2 ^ 62)<=j∧j<2 ^ 62∧j.toNat<=sizeLine ∧ ∀ l,H1 l=none->Q (.ref l) (upd H1 l (.lst ((List.range j.toNat).map fun (i:Nat)=>.int (i:Int))))):=by
 intro pins s σ H Q I h
 refine Call_ (jx I hg hm boot_list (PyProof.Rows.callWith_type1 ?_ hs2 rfl))
 rw [hs2]
 refine Calls.spliced_cons ?_
 refine Call_ (jx I hg2 hm2 boot_range (PyProof.Rows.callWith_type1 (thn (ha pos2 pins s σ H _ I h) fun us s1 ⟨vs,H1,I1,r1,q1⟩=>?_) hs rfl))
 obtain ⟨j,e,b1,b2,hz,q⟩:=q1
 subst e
 cases r1 with
 | cons r rr=>
  cases rr
  obtain ⟨t,rfl⟩:=r
  refine call_range_1 ?_
  refine Calls.spliced_nil ?_
  have I2:Inv X pins σ H1 { s1 with heap:=s1.heap.push { cls:=.type "range",data:=.fields #[.int 0 s1.toks,.int j t,.int 1 (s1.toks+1)] },toks:=s1.toks+1+1 }:=I1.kept fun b o e=>Heap.get?_push_of_some _ e
  have p24:sizeLine<=2 ^ 24:=by rw [sizeLine_eq];decide
  refine call_list_range (n:=j.toNat) (I2.ok.hd hc) (IsRange.new ..) (small_one (by omega) (by omega) b1 b2) (by rw [rangeSize_one];split <;> omega) (Nat.le_trans hz p24) fun h' tk acc' c' kp e hacc=>?_
  have r':Vals ((List.range j.toNat).map fun (i:Nat)=>V.int (i:Int)) acc'.toList:=Gb (fun i v ⟨t,e⟩=>⟨t,by rw [e];congr 1;omega⟩) hacc
  exact ⟨.ref _,_,I2.laid (t':=tk) kp (Nat.le_refl _) (show fK X.prog X.w _ h' _ (.lst _) from ⟨by rw [List.length_map,List.length_range];exact hz,acc'.toList,c',r',by rw [Array.toArray_toList];exact e⟩),rfl,q _ (I2.hok.fresh (Nat.le_refl _))⟩
def ig:List D->Option D
 | [.int j]=>if (decide (-(2 ^ 62)<=j∧j<2 ^ 62∧j.toNat<=sizeLine))=true then some (.lst true ((List.range j.toNat).map fun (i:Nat)=>.int (i:Int))) else none
 | _=>none
def Fq:List V->Hp->VK->Prop:=fun vs H1 Q=>∃ j:Int,vs=[.int j] ∧ -(2 ^ 62)<=j∧j<2 ^ 62∧j.toNat<=sizeLine ∧ ∀ l,H1 l=none->Q (.ref l) (upd H1 l (.lst ((List.range j.toNat).map fun (i:Nat)=>.int (i:Int))))
theorem Rps.rng {K:PySem.W.Frag} {F:Addr->Prop} {H:Hp}:∀ l:List Nat,Rps K F H (l.map fun (i:Nat)=>V.int (i:Int)) (l.map fun (i:Nat)=>D.int (i:Int)) []
 | []=>.nil
 | n :: ns=>.cons (L:=[]) (M:=[]) (.int n) (Rps.rng ns)
theorem vq {K:PySem.W.Frag}:cN K Fq ig:=by
 intro F H vs ds f Q r e q
 unfold ig at e
 split at e
 ·split at e
  ·rename_i hs
   cases e
   obtain ⟨x,L,rfl,r1⟩:=r.one
   cases r1
   obtain ⟨h1,h2,h3⟩:=of_decide_eq_true hs
   exact ⟨_,rfl,h1,h2,h3,fun l hl=>q _ _ _ (.list hl (Rps.rng _))⟩
  ·cases e
 ·cases e
theorem rE {a:Expr} {o:Opd} {p p2 pos pos2:Pos} (hc:X.calm=true) (hg:Gl X "list") (hm:X.mg "list" = none) (hg2:Gl X "range") (hm2:X.mg "range" = none) (ha:SA X [a] [o]) (hs:starEach [a] X.env=[(false,eval a X.env)]:=by rfl)
  (hs2:starEach [.Call (.Name "range" p2) [a] [] pos2] X.env=[(false,eval (.Call (.Name "range" p2) [a] [] pos2) X.env)]:=by rfl) :
  SE X (.Call (.Name "list" p) [.Call (.Name "range" p2) [a] [] pos2] [] pos) (sDo ig [o]):=
 (zQ hc hg hm hg2 hm2 ha hs hs2).wk fun σ H Q h=>jf vq h
end
end L2
namespace L2
open PySem PySem.Spec PyProof.Rows
def xW (ns:List Int):Nat:=(firstMet (fun i=>ns.getD i 0) ns.length).length
section
variable {X:Cx}
theorem Jq {a:Expr} {ta:TA} {p p2 pos pos2:Pos} (hc:X.calm=true) (hg:Gl X "len") (hm:X.mg "len" = none) (hg2:Gl X "set") (hm2:X.mg "set" = none) (ha:PA X [a] ta) (hs:starEach [a] X.env=[(false,eval a X.env)]:=by rfl)
  (hs2:starEach [.Call (.Name "set" p2) [a] [] pos2] X.env=[(false,eval (.Call (.Name "set" p2) [a] [] pos2) X.env)]:=by rfl) :
  PE X (.Call (.Name "len" p) [.Call (.Name "set" p2) [a] [] pos2] [] pos) (fun σ H Q=>ta σ H fun vs H1=>∃ (l:Addr) (ns:List Int),vs=[.ref l]∧SqL X.K H1 l (ns.map V.int)∧ns.length+1<scanBound∧Q (.int (xW ns)) H1):=by
 intro pins s σ H Q I h
 refine Call_ (jx I hg hm boot_len (PyProof.Rows.callWith_builtin1 ?_ hs2 rfl))
 rw [hs2]
 refine Calls.spliced_cons ?_
 refine Call_ (jx I hg2 hm2 PyProof.Rows.boot_set (PyProof.Rows.callWith_type1 (thn (ha pos2 pins s σ H _ I h) fun us s1 ⟨vs,H1,I1,r1,q1⟩=>?_) hs rfl))
 obtain ⟨l,ns,e,hq,hb,q⟩:=q1
 subst e
 cases r1 with
 | cons r rr=>
  cases rr
  cases r
  obtain ⟨its,r',pl,hz⟩:=I1.list hq
  have hlen:its.length=ns.length:=by have:=r'.length;rw [List.length_map] at this;exact this.symm
  refine call_set_list (ns:=ns) (I1.ok.hd hc) pl.isList (by simpa using intsAre_of r') (by simp only [List.size_toArray];omega) fun h' tk hS kp=>?_
  refine Calls.spliced_nil ?_
  obtain ⟨o,es,ep,t,ho,hex,hd,_,_,hsz,hf,hn⟩:=hS
  have I2:Inv X pins σ H1 { s1 with heap:=h',toks:=tk }:=I1.kept fun b o e=>kp b o (Heap.lt_size e) e
  have hfit:(es.size:Int)<2 ^ 63:=by
   have h1:=firstMet_length_le (fun i=>ns.getD i 0) ns.length
   have hz':sizeLine=16777216:=sizeLine_eq
   rw [List.length_map] at hz
   simp only [List.size_toArray,hlen] at hn
   omega
  refine call_len_set ho hex hd hf hfit ⟨.int es.size,H1,I2.tok _,⟨_,rfl⟩,?_⟩
  have e2:es.size=xW ns:=by
   simp only [List.size_toArray,hlen] at hn
   exact hn
  rw [e2];exact q
def D.ints:List D->Option (List Int)
 | []=>some []
 | .int i :: ds=>(D.ints ds).map (i :: ·)
 | _=>none
theorem Rps.intsOf {K:PySem.W.Frag} {F:Addr->Prop} {H:Hp}:∀ {vs:List V} {ds:List D} {L:List Addr} {ns:List Int},Rps K F H vs ds L->D.ints ds=some ns->vs=ns.map V.int
 | _,_,_,_,.nil,e=>by cases e;rfl
 | _,_,_,_,.cons (d:=d) (ds:=ds) r rs,e=>by
  cases d with
  | int i=>
   rw [D.ints] at e
   obtain ⟨ns,e1,rfl⟩:=Option.map_eq_some_iff.mp e
   cases r
   rw [Rps.intsOf rs e1];rfl
  | _=>simp [D.ints] at e
def qG:List D->Option D
 | [.lst _ ds]=>(D.ints ds).bind fun ns=>if ns.length+1<4096 then some (.int (xW ns)) else none
 | _=>none
theorem BK {K:PySem.W.Frag}:cN K (fun vs H1 Q=>∃ (l:Addr) (ns:List Int),vs=[.ref l]∧SqL K H1 l (ns.map V.int)∧ns.length+1<scanBound∧Q (.int (xW ns)) H1) qG:=by
 intro F H vs ds f Q r e q
 unfold qG at e
 split at e
 ·obtain ⟨ns,e1,e2⟩:=Option.bind_eq_some_iff.mp e
  split at e2
  ·rename_i hn
   cases e2
   obtain ⟨x,L,rfl,r1⟩:=r.one
   obtain ⟨a,vs,L1,rfl,ha,ra,_⟩:=r1.lst_at
   have:=ra.intsOf e1
   subst this
   exact ⟨_,_,rfl,.of ha,hn,q _ _ _ (.ofFlat rfl)⟩
  ·cases e2
 ·cases e
theorem Jz {a:Expr} {o:Opd} {p p2 pos pos2:Pos} (hc:X.calm=true) (hg:Gl X "len") (hm:X.mg "len" = none) (hg2:Gl X "set") (hm2:X.mg "set" = none) (ha:SA X [a] [o]) (hs:starEach [a] X.env=[(false,eval a X.env)]:=by rfl)
  (hs2:starEach [.Call (.Name "set" p2) [a] [] pos2] X.env=[(false,eval (.Call (.Name "set" p2) [a] [] pos2) X.env)]:=by rfl) :
  SE X (.Call (.Name "len" p) [.Call (.Name "set" p2) [a] [] pos2] [] pos) (sDo qG [o]):=
 (Jq hc hg hm hg2 hm2 ha hs hs2).wk fun σ H Q h=>jf BK h
end
end L2
namespace Z
open PySem L2
def cJ:dg:=fnS 1 0 false
 (cT (wX (sDo oh [.nam 0,.val (sC (.ty "int"))]) (Dj (sDo oh [.nam 0,.val (sC (.ty "bool"))]))))
def iB:dg:=fnS 3 0 false
 (cT (wX (aV 1 cJ [.nam 0]) (sZ dLe dLe (.nam 1) (.nam 0) (.nam 2))))
def mC:dg:=fnS 3 0 false
 (cT (wX (sDo oh [.nam 0,.val (sC (.ty "tuple"))]) (sZ dLe dLe (.nam 1) (.val (sDo lL [.nam 0])) (.nam 2))))
def iR:dg:=fnS 2 7 false
 (aR (bK 2 (sDo ig [.nam 0]))
 (aR (il (gq (cC 1)) (gT [gN 3,gN 4,gN 5,gN 6])
 (aR (Jv (gT [gN 7,gN 8]) (gH [.val (aW 2 (.nam 3)),.val (aW 2 (.nam 4))]))
 (bK 2 (cO (gq (cC 2)) 1 [7,8] (gN 0) (fu) (RG (tB' (sDo dEq [.nam 0,.nam 2])) (cC 1) (cC 0))))))
 (cT (sDo dEq [.val (sDo qG [.nam 2]),.val (sC (.int 1))]))))
def gB:dg:=fnS 2 0 false
 (cT (sDo cI [.val (HS (.val (aW 0 (.val (sC (.int 1))))) (.nam 1)),.val (nC (.val (aW 0 (.val (sC (.int 1))))) (.val (sDo cI [.nam 1,.val (sC (.int 1))])))]))
def gM:dg:=fnS 2 0 false
 (cT (aV 2 iR [.val (aW 0 (.val (sC (.int 0)))),.val (aV 2 gB [.nam 0,.nam 1])]))
def jJ:dg:=fnS 2 0 false
 (aR (sIf (kI (ph (.val (aV 3 iB [.nam 1,.val (sC (.int 0)),.val (sDo pN [.val (sDo lL [.val (aW 0 (.val (sC (.int 1))))]),.val (sC (.int 1))])]))))
 (lQ)
 (eO))
 (aR (sIf (kI (ph (.val (aV 2 gM [.nam 0,.nam 1]))))
 (lQ)
 (eO))
 (cT (gH [.val (aW 0 (.val (sC (.int 0)))),.val (aV 2 gB [.nam 0,.nam 1])]))))
def iz:dg:=fnS 3 2 true
 (aR (bK 3 (sDo cI [.val (sC (.int 1)),.val (cG 2 bh 0 [.val (sC (.int 9))])]))
 (aR (bK 4 (cG 2 bh 0 [.val (sC (.int 100))]))
 (aR (sIf (tB' (sDo dEq [.val (cG 2 bh 0 [.val (sC (.int 2))]),.val (sC (.int 1))]))
 (cT (gH [.val (cC 2),.val (cC 1),.val (cC 3),.val (cC 4)]))
 (eO))
 (cT (gH [.val (cC 1),.val (cC 2),.val (cC 3),.val (cC 4)])))))
def jd:dg:=fnS 1 6 true
 (aR (bK 1 (sDo dIx [.val (fH [.val (sC (.int 4)),.val (sC (.int 3)),.val (sC (.int 2)),.val (sC (.int 4)),.val (sC (.int 3)),.val (sC (.int 1)),.val (sC (.int 4)),.val (sC (.int 2))]),.val (cG 2 bh 0 [.val (sC (.int 8))])]))
 (aR (bK 2 (fH []))
 (aR (il (mW (.val (sC (.int 1))) (.nam 1)) (gN 3)
 (iM (lO gh 2 [.val (cG 3 iz 0 [.nam 3,.val (cG 2 bh 0 [.nam 3])])])))
 (aR (il (cZ (.val (sDo dH [.val (cG 2 bh 0 [.val (sDo pN [.val (sC (.int 7)),.val (sDo lL [.nam 2])])]),.val (sDo Ip [.val (sDo dGt [.nam 1,.val (sC (.int 1))])])]))) (gN 4)
 (aR (bK 5 (cG 2 bh 0 [.nam 1]))
 (aR (bK 6 (sDo kW [.val (sDo cI [.val (sDo cI [.nam 5,.val (sC (.int 1))]),.val (cG 2 bh 0 [.val (sDo pN [.nam 1,.val (sC (.int 1))])])]),.nam 1]))
 (iM (lO lB 2 [.val (cG 2 bh 0 [.val (sDo cI [.val (sDo lL [.nam 2]),.val (sC (.int 1))])]),.val (cG 3 iz 0 [.nam 5,.nam 6])])))))
 (cT (gH [.val (cC 1),.val (sDo zc [.nam 2])]))))))
def gK:dg:=fnS 2 7 false
 (aR (bK 2 (sDo ig [.nam 0]))
 (aR (il (gq (cC 1)) (gT [gN 3,gN 4,gN 5,gN 6])
 (aR (bK 7 (sDo Br [.val (aW 2 (.nam 3)),.val (aW 2 (.nam 4))]))
 (aR (bK 8 (sDo Ir [.val (aW 2 (.nam 3)),.val (aW 2 (.nam 4))]))
 (bK 2 (cO (gq (cC 2)) 1 [7,8] (gN 0) (fu) (sDo dIx [.val (fH [.val (cC 0),.val (cC 1)]),.val (sDo Ip [.val (sDo dEq [.nam 0,.nam 2])])]))))))
 (cT (sDo dEq [.nam 2,.val (sDo dH [.val (fH [.val (sC (.int 0))]),.nam 0])]))))
end Z
namespace Z
open PySem L2 TM
theorem UG (i:Int):oh [.int i,.ty "int"]=some (.bl true):=rfl
theorem Uz (i:Int):oh [.int i,.ty "bool"]=some (.bl false):=rfl
theorem UL (ds:List D):oh [.tup ds,.ty "tuple"]=some (.bl true):=rfl
theorem oG {i:Int} {Q:D->Option D->Prop} (h:Q (.bl true) none):cJ [.int i] Q:=by
 dsimp? only [cJ,UG,Uz]
 exact h
theorem zA {i lo hi:Int} {Q:D->Option D->Prop} (h:Q (.bl (decide (lo<=i)&&decide (i<=hi))) none):iB [.int i,.int lo,.int hi] Q:=by
 dsimp? only [iB]
 refine oG ?_
 dsimp? only
 refine lA (fun hc=>?_) fun hc=>?_
 ·dsimp? only
  rw [decide_eq_true hc,Bool.true_and] at h
  exact h
 ·rw [decide_eq_false hc,Bool.false_and] at h
  exact h
theorem Jb {ds:List D} {lo hi:Int} {Q:D->Option D->Prop} (h:Q (.bl (decide (lo<=(ds.length:Int))&&decide ((ds.length:Int)<=hi))) none):mC [.tup ds,.int lo,.int hi] Q:=by
 dsimp? only [mC,UL]
 refine lA (fun hc=>?_) fun hc=>?_
 ·dsimp? only
  rw [decide_eq_true hc,Bool.true_and] at h
  exact h
 ·rw [decide_eq_false hc,Bool.false_and] at h
  exact h
end Z
namespace Z
open PySem L2 TM
structure Ln where
 a:Nat
 b:Nat
 s:Nat
 m:Nat
def Ln.d (l:Ln):D:=.tup [.int l.a,.int l.b,.int l.s,.int l.m]
def cB (ls:List Ln):D:=.tup (ls.map Ln.d)
def fD (n:Nat) (ls:List Ln):D:=.tup [.int n,cB ls]
structure Ln.Ok (n:Nat) (l:Ln):Prop where
 a:l.a<n
 b:l.b<n
 ne:l.a≠l.b
 s:1<=l.s∧l.s<=9
 m:l.m<=99
theorem Od (l:Ln):l.d.sh=true:=rfl
theorem Xq (l:Ln):l.d.fz=l.d:=rfl
theorem JZ (l:Ln):l.d.clean=true:=rfl
theorem dF (ls:List Ln):D.shs (ls.map Ln.d)=true:=gm Ln.d Od ls
theorem gY (ls:List Ln):D.fzs (ls.map Ln.d)=ls.map Ln.d:=jh Ln.d Xq ls
theorem DY (ls:List Ln):D.cleans (ls.map Ln.d)=true:=mU Ln.d JZ ls
theorem xx (ls:List Ln):(cB ls).sh=true:=by show D.shs (ls.map Ln.d)=true;exact dF ls
theorem vI (ls:List Ln):(cB ls).fz=cB ls:=by show D.tup (D.fzs (ls.map Ln.d))=_;rw [gY];rfl
theorem nZ (ls:List Ln):(cB ls).clean=true:=by show D.cleans (ls.map Ln.d)=true;exact DY ls
theorem bV (n:Nat) (ls:List Ln):(fD n ls).sh=true:=by show (true&&((cB ls).sh&&true))=true;rw [xx];rfl
theorem bZ (n:Nat) (ls:List Ln):(fD n ls).fz=fD n ls:=by show D.tup [.int n,(cB ls).fz]=_;rw [vI];rfl
theorem lU (n:Nat) (ls:List Ln):(fD n ls).clean=true:=by show (true&&((cB ls).clean&&true))=true;rw [nZ];rfl
theorem iJ (n:Nat) (ls:List Ln):ixF (fD n ls) 0=some (.int n,none):=Et _ _ rfl
theorem jj (n:Nat) (ls:List Ln):ixF (fD n ls) 1=some (cB ls,none):=Eu _ _ _ (xx ls)
theorem Cv {i lo hi:Int} (h1:lo<=i) (h2:i<=hi) {Q:D->Option D->Prop} (h:Q (.bl true) none):iB [.int i,.int lo,.int hi] Q:=zA (by rw [decide_eq_true h1,decide_eq_true h2];exact h)
theorem Mh {ds:List D} {lo hi:Int} (h1:lo<=(ds.length:Int)) (h2:(ds.length:Int)<=hi) {Q:D->Option D->Prop} (h:Q (.bl true) none):mC [.tup ds,.int lo,.int hi] Q:=Jb (by rw [decide_eq_true h1,decide_eq_true h2];exact h)
theorem dN (g:List Int):D.shs (g.map D.int)=true:=gm D.int (fun _=>rfl) g
theorem gw (g:List Int):D.fzs (g.map D.int)=g.map D.int:=jh D.int (fun _=>rfl) g
theorem jr {o:Bool} {g:List Int} {k:Nat} (h:k<g.length):ixF (.lst o (g.map D.int)) (k:Int)=some (.int (g.getD k 0),none):=by
 refine ji _ _ (iu D.int ?_) rfl
 rw [List.getElem?_eq_getElem h,List.getD_eq_getElem?_getD,List.getElem?_eq_getElem h];rfl
theorem ints_map:∀ g:List Int,D.ints (g.map D.int)=some g
 | []=>rfl
 | x :: g=>by rw [List.map_cons,D.ints,ints_map g];rfl
theorem CG {o:Bool} {g:List Int} (h:g.length<=100):qG [.lst o (g.map D.int)]=some (.int (xW g)):=by
 show (D.ints _).bind _=_
 rw [ints_map g,Option.bind_some,if_pos (by omega)]
theorem Ft (n:Nat):(List.range n).map (fun (i:Nat)=>D.int (i:Int))=((List.range n).map fun (i:Nat)=>(i:Int)).map D.int:=by rw [List.map_map];rfl
theorem qU {n:Nat} (h:n<=100):ig [.int (n:Int)]=some (.lst true (((List.range n).map fun (i:Nat)=>(i:Int)).map D.int)):=by
 have p62:(2:Int) ^ 62=4611686018427387904:=by decide
 have e:(n:Int).toNat=n:=by omega
 unfold ig
 dsimp only
 rw [if_pos (by rw [decide_eq_true_eq,p62,sizeLine_eq,e];omega),e,Ft]
def pS (g:List Int) (l:Ln):List Int:=g.map fun x=>if x=g.getD l.b 0 then g.getD l.a 0 else x
def pG (n:Nat) (ls:List Ln):List Int:=ls.foldl pS ((List.range n).map fun (i:Nat)=>(i:Int))
theorem Ng (g:List Int) (l:Ln):(pS g l).length=g.length:=by simp [pS]
theorem vH {α β : Type} (f : β -> α -> β) (z : β) (xs:List α) (k:Nat) (x : α) (h:xs[k]? = some x):(xs.take (k+1)).foldl f z=f ((xs.take k).foldl f z) x:=by
 rw [List.take_add_one,h,List.foldl_append];rfl
theorem xT {n:Nat} {ls:List Ln} (hn:n<=4) (hl:ls.length<=100) (ho:∀ l∈ls,l.Ok n) {Q:D->Option D->Prop} (h:Q (.bl ((xW (pG n ls):Int)==1)) none):iR [.int n,cB ls] Q:=by
 dsimp? only [iR,qU (show n<=100 by omega),cB,dF,gY,List.length_map]
 refine bC (by omega) ?_
 (try dsimp? only)
 refine cR (fun k ρ => ∃ x3 x4 x5 x6 x7 x8,ρ = [some (.int n),some (.tup (ls.map Ln.d)),some (.lst true (((ls.take k).foldl pS ((List.range n).map fun (i:Nat)=>(i:Int))).map D.int)),x3,x4,x5,x6,x7,x8]∧((ls.take k).foldl pS ((List.range n).map fun (i:Nat)=>(i:Int))).length=n) 0
  ⟨_,_,_,_,_,_,by rw [List.take_zero];rfl,by simp⟩ ?_ ?_
 ·rintro k d ρ hd ⟨x3,x4,x5,x6,x7,x8,rfl,hgl⟩ P hP
  rw [Nat.zero_add] at hgl
  rw [List.getElem?_map] at hd
  obtain ⟨l,hlk,rfl⟩:=Option.map_eq_some_iff.mp hd
  have hlo:=ho l (List.mem_of_getElem? hlk)
  have ha:=hlo.a
  have hb:=hlo.b
  have hf:=vH pS ((List.range n).map fun (i:Nat)=>(i:Int)) ls k l hlk
  rw [Nat.zero_add]
  generalize (ls.take k).foldl pS ((List.range n).map fun (i:Nat)=>(i:Int))=g at hgl hf hP ⊢
  dsimp? only [Ln.d,jr (o:=true) (g:=g) (k:=l.a) (by omega),jr (o:=true) (g:=g) (k:=l.b) (by omega),dN,gw,List.length_map,hgl]
  refine bC (by omega) ?_
  dsimp? only [dN,gw]
  refine bY D.int (fun x=>D.int (if x=g.getD l.b 0 then g.getD l.a 0 else x)) (fun ρ => ∃ x,ρ = [x,some (.int (g.getD l.a 0)),some (.int (g.getD l.b 0))]) ⟨_,rfl⟩ ?_ ?_
  ·rintro x _ ρ ⟨y,rfl⟩ P hP
   dsimp? only
   refine vN (fun hc=>?_) fun hc=>?_
   ·(try dsimp? only)
    rw [if_pos (by simpa using hc)] at hP
    exact hP _ ⟨_,rfl⟩
   ·(try dsimp? only)
    rw [if_neg (by simpa using hc)] at hP
    exact hP _ ⟨_,rfl⟩
  rintro ρ ⟨y,rfl⟩
  (try dsimp? only)
  have e1:g.map (fun x=>D.int (if x=g.getD l.b 0 then g.getD l.a 0 else x))=(pS g l).map D.int:=by unfold pS;rw [List.map_map];rfl
  rw [e1]
  rw [Nat.zero_add] at hP
  rw [hf] at hP
  exact hP _ ⟨_,_,_,_,_,_,rfl,by rw [Ng];exact hgl⟩
 rintro ρ ⟨x3,x4,x5,x6,x7,x8,rfl,hgl⟩
 have ef:0+(ls.map Ln.d).length=ls.length:=by simp
 rw [ef,List.take_length] at hgl ⊢
 dsimp? only [CG (o:=true) (g:=ls.foldl pS ((List.range n).map fun (i:Nat)=>(i:Int))) (by omega)]
 exact h
end Z
namespace Z
open PySem L2 TM
theorem qg {α : Type} (gI f : α -> D) (p : α -> Bool) {g:fX} {t:fB} {el:bU} (S:En->Prop):∀ {xs:List α} {ρ : En} {Q:List D->En->Prop},S ρ ->
  (∀ x∈xs,∀ ρ,S ρ -> ∀ (PT:D->En->Prop) (PF:En->Prop),(p x=true -> ∀ ρ',S ρ'->PT (f x) ρ')->(p x=false -> ∀ ρ',S ρ'->PF ρ')->g (gI x) ρ fun ρ1=>t ρ1 fun b ρ2=>if b=true then el ρ2 PT else PF ρ2) ->
  (∀ ρ',S ρ'->Q ((xs.filter p).map f) ρ')->jz g t el (xs.map gI) ρ Q
 | [],ρ,Q,h0,_,hQ=>hQ ρ h0
 | x :: xs,ρ,Q,h0,hs,hQ=>by
  show g (gI x) ρ fun ρ1=>t ρ1 fun b ρ2=>if b=true then el ρ2 fun y ρ3=>jz g t el (xs.map gI) ρ3 fun ys ρ4=>Q (y :: ys) ρ4 else jz g t el (xs.map gI) ρ2 Q
  refine hs x List.mem_cons_self ρ h0 _ _ (fun hp ρ' h'=>?_) fun hp ρ' h'=>?_
  ·exact qg gI f p S h' (fun d' hd'=>hs d' (List.mem_cons_of_mem _ hd')) fun ρ2 h2=>by
    have:=hQ ρ2 h2
    rw [List.filter_cons,if_pos hp] at this
    exact this
  ·exact qg gI f p S h' (fun d' hd'=>hs d' (List.mem_cons_of_mem _ hd')) fun ρ2 h2=>by
    have:=hQ ρ2 h2
    rw [List.filter_cons,if_neg (by rw [hp];simp)] at this
    exact this
theorem pq (ds:List D) (a:Nat) (ha:a<=ds.length):cutD ds (some (a:Int)) none=ds.drop a:=by
 unfold cutD
 rw [HT.uK,HT.Di,Nat.min_eq_left ha,List.take_of_length_le (by rw [List.length_drop];omega)]
theorem yZ (ds:List D) (a:Nat) (ha:a<=ds.length):cutD ds none (some (a:Int))=ds.take a:=by
 unfold cutD
 rw [HT.uK,HT.Di,Nat.min_eq_left ha,List.drop_zero,Nat.sub_zero]
theorem Wy {ds:List D} {i:Nat} (hs:D.shs ds=true) (hi:i<ds.length):dSl (.tup ds) none (some (i:Int))=some (.tup (ds.take i)):=by
 show (if _ then _ else _)=_
 rw [if_pos ?_,yZ ds i (by omega)]
 rw [hs,HT.uK,Bool.true_and,Bool.not_eq_true',decide_eq_false_iff_not]
 omega
theorem Ow {ds:List D} {i:Nat} (hs:D.shs ds=true) (hi:i<ds.length):dSl (.tup ds) (some ((i+1:Nat):Int)) none=some (.tup (ds.drop (i+1))):=by
 show (if _ then _ else _)=_
 rw [if_pos ?_,pq ds (i+1) (by omega)]
 rw [hs,HT.uK,Bool.true_and,Bool.not_eq_true',decide_eq_false_iff_not]
 omega
theorem sX {ls:List Ln} {i:Nat} (hl:ls.length<=100):cI [.tup ((ls.map Ln.d).take i),.tup ((ls.map Ln.d).drop (i+1))]=some (cB (ls.eraseIdx i)):=by
 rw [← List.map_take,← List.map_drop,vf _ _ (by rw [sizeLine_eq,List.length_map,List.length_map,List.length_take,List.length_drop];omega) (dF _) (dF _),← List.map_append,← List.eraseIdx_eq_take_drop_succ];rfl
theorem qT {n:Nat} {ls:List Ln} {i:Nat} (hi:i<ls.length) (hl:ls.length<=100) {Q:D->Option D->Prop} (h:Q (cB (ls.eraseIdx i)) none):gB [fD n ls,.int i] Q:=by
 have s1:=Wy (dF ls) (i:=i) (by rw [List.length_map];exact hi)
 have s2:=Ow (dF ls) (i:=i) (by rw [List.length_map];exact hi)
 have ec:(i:Int)+1=((i+1:Nat):Int):=by omega
 dsimp? only [gB,jj,cB,s1,s2,ec,sX hl]
 exact h
def J (n:Nat) (ls:List Ln):Bool:=(xW (pG n ls):Int)==1
theorem jG {n:Nat} {ls:List Ln} {i:Nat} (ho:∀ l∈ls,l.Ok n):∀ l∈ls.eraseIdx i,l.Ok n:=fun l h=>ho l (List.mem_of_mem_eraseIdx h)
theorem uZ {n:Nat} {ls:List Ln} {i:Nat} (hn:n<=4) (hi:i<ls.length) (hl:ls.length<=100) (ho:∀ l∈ls,l.Ok n) {Q:D->Option D->Prop} (h:Q (.bl (J n (ls.eraseIdx i))) none):gM [fD n ls,.int i] Q:=by
 have h2:(ls.eraseIdx i).length<=100:=by rw [List.length_eraseIdx];split <;> omega
 dsimp? only [gM,iJ,bZ]
 refine qT hi hl ?_
 dsimp? only [vI,nZ]
 refine xT hn h2 (jG ho) ?_
 (try dsimp? only)
 exact h
def due (n:Nat) (ls:List Ln):List Nat:=(List.range ls.length).filter fun i=>J n (ls.eraseIdx i)
theorem Gd {n:Nat} {ls:List Ln} {i:Nat} (hn:n<=4) (hi:i<ls.length) (hl:ls.length<=100) (ho:∀ l∈ls,l.Ok n) (hJ:J n (ls.eraseIdx i)=true) {Q:D->Option D->Prop} (h:Q (fD n (ls.eraseIdx i)) none):jJ [fD n ls,.int i] Q:=by
 dsimp? only [jJ,jj,iJ,cB,List.length_map]
 refine Cv (by omega) (by omega) ?_
 dsimp? only [bZ]
 refine uZ hn hi hl ho ?_
 dsimp? only [hJ,iJ,bZ]
 refine qT hi hl ?_
 dsimp? only [nZ]
 exact h
end Z
namespace Z
open PySem L2 TM PyProof.Rows
theorem tU:∀ xs ys:List Int,PyData.eqvAll (D.dats (xs.map D.int)) (D.dats (ys.map D.int))=decide (xs=ys)
 | [],[]=>by simp [D.dats,PyData.eqvAll]
 | [],y :: ys=>by simp [D.dats,PyData.eqvAll]
 | x :: xs,[]=>by simp [D.dats,PyData.eqvAll]
 | x :: xs,y :: ys=>by
  rw [List.map_cons,List.map_cons,D.dats,D.dats,PyData.eqvAll,tU xs ys]
  have e:(x==y)=decide (x=y):=by by_cases h:x=y <;> simp [h]
  simp [D.dat,PyData.eqv,e]
theorem Hu (o:Bool) (xs:List Int):Ok 1 (.lst o (xs.map D.int)):=wK (qZ D.int (fun i=>zM 0 i) xs)
theorem pL {d:D} {n:Nat} (h:Ok n d) (hn:n<=64):dO d=true:=by
 unfold dO SeqAt.shaped
 rw [h.1,Bool.true_and,decide_eq_true_eq]
 exact Nat.le_trans h.2 hn
theorem Kd (o o':Bool) (xs ys:List Int):dEq [.lst o (xs.map D.int),.lst o' (ys.map D.int)]=some (.bl (decide (xs=ys))):=by
 show (if (dO _&&dO _)=true then some (D.bl (PyData.eqv (D.dat _) (D.dat _))) else none)=_
 rw [pL (Hu o xs) (by decide),pL (Hu o' ys) (by decide),← tU]
 simp [D.dat,PyData.eqv]
def lo (a b:Int):Int:=if b<a then b else a
def hi (a b:Int):Int:=if b>a then b else a
def lS (g:List Int) (l:Ln):List Int:=g.map fun x=>if x=hi (g.getD l.a 0) (g.getD l.b 0) then lo (g.getD l.a 0) (g.getD l.b 0) else x
def lG (n:Nat) (ls:List Ln):List Int:=ls.foldl lS ((List.range n).map fun (i:Nat)=>(i:Int))
theorem sW (g:List Int) (l:Ln):(lS g l).length=g.length:=by simp [lS]
theorem sI {o:Bool} {x:D} {n:Nat} (hn:n<=100) (hs:x.sh=true:=by rfl):dH [.lst o [x],.int (n:Int)]=some (.lst true (List.replicate n [x]).flatten):=by
 have e:(n:Int).toNat=n:=by omega
 have p63:(2:Int) ^ 63=9223372036854775808:=by decide
 unfold dH
 dsimp only
 rw [if_pos (by simp only [Bool.and_eq_true,decide_eq_true_eq,sizeLine_eq,p63,e,List.length_cons,List.length_nil,D.shs,hs,and_true];omega),e]
theorem xV {n:Nat} {ls:List Ln} (hn:n<=4) (hl:ls.length<=100) (ho:∀ l∈ls,l.Ok n) {Q:D->Option D->Prop} (h:Q (.bl (decide (lG n ls=List.replicate n 0))) none):gK [.int n,cB ls] Q:=by
 dsimp? only [gK,qU (show n<=100 by omega),cB,dF,gY,List.length_map]
 refine bC (by omega) ?_
 (try dsimp? only)
 refine cR (fun k ρ => ∃ x3 x4 x5 x6 x7 x8,ρ = [some (.int n),some (.tup (ls.map Ln.d)),some (.lst true (((ls.take k).foldl lS ((List.range n).map fun (i:Nat)=>(i:Int))).map D.int)),x3,x4,x5,x6,x7,x8]∧((ls.take k).foldl lS ((List.range n).map fun (i:Nat)=>(i:Int))).length=n) 0
  ⟨_,_,_,_,_,_,by rw [List.take_zero];rfl,by simp⟩ ?_ ?_
 ·rintro k d ρ hd ⟨x3,x4,x5,x6,x7,x8,rfl,hgl⟩ P hP
  rw [Nat.zero_add] at hgl
  rw [List.getElem?_map] at hd
  obtain ⟨l,hlk,rfl⟩:=Option.map_eq_some_iff.mp hd
  have hlo:=ho l (List.mem_of_getElem? hlk)
  have ha:=hlo.a
  have hb:=hlo.b
  have hf:=vH lS ((List.range n).map fun (i:Nat)=>(i:Int)) ls k l hlk
  rw [Nat.zero_add]
  generalize (ls.take k).foldl lS ((List.range n).map fun (i:Nat)=>(i:Int))=g at hgl hf hP ⊢
  dsimp? only [Ln.d,jr (o:=true) (g:=g) (k:=l.a) (by omega),jr (o:=true) (g:=g) (k:=l.b) (by omega),dN,gw,List.length_map,hgl]
  rw [show (if g.getD l.b 0<g.getD l.a 0 then g.getD l.b 0 else g.getD l.a 0)=lo (g.getD l.a 0) (g.getD l.b 0) from rfl,show (if g.getD l.b 0>g.getD l.a 0 then g.getD l.b 0 else g.getD l.a 0)=hi (g.getD l.a 0) (g.getD l.b 0) from rfl]
  refine bC (by omega) ?_
  dsimp? only [dN,gw]
  refine bY D.int (fun x=>D.int (if x=hi (g.getD l.a 0) (g.getD l.b 0) then lo (g.getD l.a 0) (g.getD l.b 0) else x)) (fun ρ => ∃ x,ρ = [x,some (.int (lo (g.getD l.a 0) (g.getD l.b 0))),some (.int (hi (g.getD l.a 0) (g.getD l.b 0)))]) ⟨_,rfl⟩ ?_ ?_
  ·rintro x _ ρ ⟨y,rfl⟩ P hP
   have hx:dIx [.lst true [.int x,.int (lo (g.getD l.a 0) (g.getD l.b 0))],.int (if (x==hi (g.getD l.a 0) (g.getD l.b 0))=true then 1 else 0)]=some (.int (if x=hi (g.getD l.a 0) (g.getD l.b 0) then lo (g.getD l.a 0) (g.getD l.b 0) else x)):=by
    by_cases c:x=hi (g.getD l.a 0) (g.getD l.b 0)
    ·rw [if_pos (by simpa using c),if_pos c];exact qF _ _ (Uc _ _ _) rfl
    ·rw [if_neg (by simpa using c),if_neg c];exact qF _ _ (Ub _ _) rfl
   dsimp? only [hx]
   exact hP _ ⟨_,rfl⟩
  rintro ρ ⟨y,rfl⟩
  (try dsimp? only)
  have e1:g.map (fun x=>D.int (if x=hi (g.getD l.a 0) (g.getD l.b 0) then lo (g.getD l.a 0) (g.getD l.b 0) else x))=(lS g l).map D.int:=by unfold lS;rw [List.map_map];rfl
  rw [e1]
  rw [Nat.zero_add] at hP
  rw [hf] at hP
  exact hP _ ⟨_,_,_,_,_,_,rfl,by rw [sW];exact hgl⟩
 rintro ρ ⟨x3,x4,x5,x6,x7,x8,rfl,hgl⟩
 have ef:0+(ls.map Ln.d).length=ls.length:=by simp
 rw [ef,List.take_length] at hgl ⊢
 have er:(List.replicate n [D.int 0]).flatten=(List.replicate n (0:Int)).map D.int:=by rw [List.map_replicate,List.flatten_replicate_singleton]
 have em:=sI (o:=true) (x:=.int 0) (n:=n) (by omega)
 rw [er] at em
 dsimp? only [em,Kd]
 exact h
theorem Mt {g:List Int} (hg:1<=g.length):xW g=1 ↔ ∀ x,x<g.length->g.getD x 0=g.getD 0 0:=by
 unfold xW
 constructor
 ·intro h x hx
  obtain ⟨c,hc⟩:∃ c,firstMet (fun i=>g.getD i 0) g.length=[c]:=List.length_eq_one_iff.mp h
  have all:∀ x,x<g.length->g.getD x 0=c:=fun x hx=>by
   have h1:=firstMet_any (fun i=>g.getD i 0) g.length (g.getD x 0)
   rw [hc] at h1
   have h2:((List.range g.length).map fun i=>g.getD i 0).any (· == g.getD x 0)=true:=List.any_eq_true.mpr ⟨g.getD x 0,List.mem_map.mpr ⟨x,List.mem_range.mpr hx,rfl⟩,by simp⟩
   rw [h2] at h1
   simp at h1
   exact h1.symm
  rw [all x hx,all 0 (by omega)]
 ·intro h
  have:∀ k,k+1<=g.length->firstMet (fun i=>g.getD i 0) (k+1)=[g.getD 0 0]:=by
   intro k
   induction k with
   | zero=>intro _;rw [firstMet_succ,firstMet_zero];rfl
   | succ k ih=>
    intro hk
    rw [firstMet_succ,ih (by omega),h (k+1) (by omega)]
    simp [step_dedup]
  obtain ⟨k,hk⟩:∃ k,g.length=k+1:=⟨g.length - 1,by omega⟩
  rw [hk,this k (by omega)];rfl
theorem sU {g:List Int} {f:Int->Int} {x:Nat} (h:x<g.length):(g.map f).getD x 0=f (g.getD x 0):=by
 rw [List.getD_eq_getElem?_getD,List.getD_eq_getElem?_getD,List.getElem?_map,List.getElem?_eq_getElem h];rfl
structure Alike (n:Nat) (g h:List Int):Prop where
 gl:g.length=n
 hl:h.length=n
 e:∀ x y,x<n->y<n->(g.getD x 0=g.getD y 0↔h.getD x 0=h.getD y 0)
 z:h.getD 0 0=0
 p:∀ x,x<n->0<=h.getD x 0
theorem Zf (x a b:Int):(if x=b then a else x)=if x=a∨x=b then a else x:=by
 by_cases h:x=b
 ·rw [if_pos h,if_pos (.inr h)]
 ·rw [if_neg h]
  by_cases k:x=a
  ·rw [if_pos (.inl k)];exact k
  ·rw [if_neg (fun z=>z.elim k h)]
theorem Zg (x a b:Int):(if x=hi a b then lo a b else x)=if x=a∨x=b then lo a b else x:=by
 unfold hi lo
 by_cases c:b<a
 ·simp only [c,if_true]
  repeat' split
  all_goals omega
 ·simp only [c,if_false]
  repeat' split
  all_goals omega
theorem Vk (a b:Int):lo a b=a∨lo a b=b:=by
 unfold lo
 split
 ·exact .inr rfl
 ·exact .inl rfl
theorem Alike.step {n:Nat} {g h:List Int} {l:Ln} (A:Alike n g h) (hl:l.Ok n):Alike n (pS g l) (lS h l):=by
 have ha:=hl.a
 have hb:=hl.b
 have e1:∀ x,x<n->(pS g l).getD x 0=if g.getD x 0=g.getD l.a 0∨g.getD x 0=g.getD l.b 0 then g.getD l.a 0 else g.getD x 0:=fun x hx=>(sU (by rw [A.gl];exact hx)).trans (Zf _ _ _)
 have e2:∀ x,x<n->(lS h l).getD x 0=if h.getD x 0=h.getD l.a 0∨h.getD x 0=h.getD l.b 0 then lo (h.getD l.a 0) (h.getD l.b 0) else h.getD x 0:=fun x hx=>(sU (by rw [A.hl];exact hx)).trans (Zg _ _ _)
 have px:∀ x,x<n->((g.getD x 0=g.getD l.a 0∨g.getD x 0=g.getD l.b 0)↔(h.getD x 0=h.getD l.a 0∨h.getD x 0=h.getD l.b 0)):=fun x hx=>or_congr (A.e x l.a hx ha) (A.e x l.b hx hb)
 have lm:=Vk (h.getD l.a 0) (h.getD l.b 0)
 refine ⟨by rw [Ng];exact A.gl,by rw [sW];exact A.hl,fun x y hx hy=>?_,?_,fun x hx=>?_⟩
 ·rw [e1 x hx,e1 y hy,e2 x hx,e2 y hy]
  by_cases cx:g.getD x 0=g.getD l.a 0∨g.getD x 0=g.getD l.b 0
  ·rw [if_pos cx,if_pos ((px x hx).mp cx)]
   by_cases cy:g.getD y 0=g.getD l.a 0∨g.getD y 0=g.getD l.b 0
   ·rw [if_pos cy,if_pos ((px y hy).mp cy)];exact ⟨fun _=>rfl,fun _=>rfl⟩
   ·have cy':=fun z=>cy ((px y hy).mpr z)
    rw [if_neg cy,if_neg cy']
    exact ⟨fun e=>absurd (.inl e.symm) cy,fun e=>absurd (by rw [← e];exact lm) cy'⟩
  ·have cx':=fun z=>cx ((px x hx).mpr z)
   rw [if_neg cx,if_neg cx']
   by_cases cy:g.getD y 0=g.getD l.a 0∨g.getD y 0=g.getD l.b 0
   ·rw [if_pos cy,if_pos ((px y hy).mp cy)]
    exact ⟨fun e=>absurd (.inl e) cx,fun e=>absurd (by rw [e];exact lm) cx'⟩
   ·rw [if_neg cy,if_neg fun z=>cy ((px y hy).mpr z)]
    exact A.e x y hx hy
 ·rw [e2 0 (by omega),A.z]
  have pa:=A.p l.a ha
  have pb:=A.p l.b hb
  split
  ·unfold lo;split <;> omega
  ·rfl
 ·rw [e2 x hx]
  split
  ·rcases lm with z | z <;> rw [z]
   ·exact A.p l.a ha
   ·exact A.p l.b hb
  ·exact A.p x hx
theorem rR {n:Nat}:∀ (ls:List Ln) {g h:List Int},Alike n g h->(∀ l∈ls,l.Ok n)->Alike n (ls.foldl pS g) (ls.foldl lS h)
 | [],_,_,A,_=>A
 | l :: ls,_,_,A,ho=>rR ls (A.step (ho l List.mem_cons_self)) fun l' h'=>ho l' (List.mem_cons_of_mem _ h')
theorem Xd {n:Nat} {ls:List Ln} (hn:1<=n) (ho:∀ l∈ls,l.Ok n):J n ls=decide (lG n ls=List.replicate n 0):=by
 have g0:∀ x,x<n->((List.range n).map fun (i:Nat)=>(i:Int)).getD x 0=x:=fun x hx=>by
  rw [List.getD_eq_getElem?_getD,List.getElem?_map,List.getElem?_range hx];rfl
 have A:Alike n (pG n ls) (lG n ls):=rR ls ⟨by simp,by simp,fun x y _ _=>Iff.rfl,by rw [g0 0 (by omega)];rfl,fun x hx=>by rw [g0 x hx];omega⟩ ho
 have h1:=Mt (g:=pG n ls) (by rw [A.gl];exact hn)
 have h2:J n ls=true↔lG n ls=List.replicate n 0:=by
  unfold J
  rw [beq_iff_eq]
  constructor
  ·intro h
   have h3:=h1.mp (by omega)
   rw [A.gl] at h3
   apply List.ext_getElem?
   intro x
   by_cases hx:x<n
   ·have h4:=(A.e x 0 hx (by omega)).mp (h3 x hx)
    rw [A.z,List.getD_eq_getElem?_getD] at h4
    have q:=List.getElem?_eq_getElem (l:=lG n ls) (i:=x) (by rw [A.hl];exact hx)
    rw [q] at h4 ⊢
    rw [List.getElem?_replicate,if_pos hx]
    exact congrArg some h4
   ·rw [List.getElem?_eq_none (by rw [A.hl];omega),List.getElem?_eq_none (by rw [List.length_replicate];omega)]
  ·intro h
   have:xW (pG n ls)=1:=h1.mpr fun x hx=>by
    rw [A.gl] at hx
    refine (A.e x 0 hx (by omega)).mpr ?_
    rw [A.z,h,List.getD_eq_getElem?_getD,List.getElem?_replicate,if_pos hx];rfl
   omega
 rcases hJ:J n ls with _ | _
 ·exact (decide_eq_false fun z=>by rw [h2.mpr z] at hJ;cases hJ).symm
 ·exact (decide_eq_true (h2.mp hJ)).symm
end Z
namespace Z
open PySem L2 TM PyProof.Rows
structure Good (n:Nat) (ls:List Ln):Prop where
 n1:1<=n
 n4:n<=4
 l:ls.length<=6
 o:∀ l∈ls,l.Ok n
 j:J n ls=true
def Cn (n:Nat) (ls:List Ln):Prop:=∀ c:Nat->Int,(∀ l∈ls,c l.a=c l.b) -> ∀ x,x<n->c x=c 0
structure Fin (n:Nat) (c:Nat->Int) (h:List Int):Prop where
 hl:h.length=n
 e:∀ x y,x<n->y<n->h.getD x 0=h.getD y 0->c x=c y
theorem sV {n:Nat} {h:List Int} {l:Ln} (hl:h.length=n) {x:Nat} (hx:x<n):(lS h l).getD x 0=if h.getD x 0=hi (h.getD l.a 0) (h.getD l.b 0) then lo (h.getD l.a 0) (h.getD l.b 0) else h.getD x 0:=sU (by rw [hl];exact hx)
theorem Fin.step {n:Nat} {c:Nat->Int} {h:List Int} {l:Ln} (A:Fin n c h) (ho:l.Ok n) (hc:c l.a=c l.b):Fin n c (lS h l):=by
 have ha:=ho.a
 have hb:=ho.b
 refine ⟨by rw [sW];exact A.hl,fun x y hx hy=>?_⟩
 rw [sV A.hl hx,sV A.hl hy]
 have h1:=A.e x y hx hy
 have h2:=A.e x l.a hx ha
 have h3:=A.e x l.b hx hb
 have h4:=A.e y l.a hy ha
 have h5:=A.e y l.b hy hb
 unfold hi lo
 generalize c x=cx at *
 generalize c y=cy at *
 generalize c l.a=ca at *
 generalize c l.b=cb at *
 generalize h.getD x 0=hx' at *
 generalize h.getD y 0=hy' at *
 generalize h.getD l.a 0=ha' at *
 generalize h.getD l.b 0=hb' at *
 repeat' split
 all_goals omega
theorem GZ {n:Nat} {c:Nat->Int}:∀ (ls:List Ln) {h:List Int},Fin n c h->(∀ l∈ls,l.Ok n)->(∀ l∈ls,c l.a=c l.b)->Fin n c (ls.foldl lS h)
 | [],_,A,_,_=>A
 | l :: ls,_,A,ho,hc=>GZ ls (A.step (ho l List.mem_cons_self) (hc l List.mem_cons_self)) (fun l' h'=>ho l' (List.mem_cons_of_mem _ h')) fun l' h'=>hc l' (List.mem_cons_of_mem _ h')
theorem Dk {n:Nat}:∀ (ls:List Ln) {h:List Int} {x y:Nat},h.length=n->x<n->y<n->h.getD x 0=h.getD y 0->(ls.foldl lS h).getD x 0=(ls.foldl lS h).getD y 0
 | [],_,_,_,_,_,_,e=>e
 | l :: ls,h,x,y,hl,hx,hy,e=>Dk ls (h:=lS h l) (by rw [sW];exact hl) hx hy (by rw [sV hl hx,sV hl hy,e])
theorem Jh {n:Nat} {h:List Int} {l:Ln} (hl:h.length=n) (ho:l.Ok n):(lS h l).getD l.a 0=(lS h l).getD l.b 0:=by
 rw [sV hl ho.a,sV hl ho.b]
 unfold hi lo
 repeat' split
 all_goals omega
theorem vV {n:Nat}:∀ (ls:List Ln) {h:List Int},h.length=n->(∀ l∈ls,l.Ok n) -> ∀ l∈ls,(ls.foldl lS h).getD l.a 0=(ls.foldl lS h).getD l.b 0
 | l :: ls,h,hl,ho,l',hm=>by
  rcases List.mem_cons.mp hm with rfl | hm
  ·have o:=ho l' List.mem_cons_self
   exact Dk ls (by rw [sW];exact hl) o.a o.b (Jh hl o)
  ·exact vV ls (h:=lS h l) (by rw [sW];exact hl) (fun l' h'=>ho l' (List.mem_cons_of_mem _ h')) l' hm
theorem Gf {n:Nat} {ls:List Ln} (hn:1<=n) (ho:∀ l∈ls,l.Ok n):J n ls=true↔Cn n ls:=by
 have g0:∀ x,x<n->((List.range n).map fun (i:Nat)=>(i:Int)).getD x 0=x:=fun x hx=>by
  rw [List.getD_eq_getElem?_getD,List.getElem?_map,List.getElem?_range hx];rfl
 have A:Alike n (pG n ls) (lG n ls):=rR ls ⟨by simp,by simp,fun x y _ _=>Iff.rfl,by rw [g0 0 (by omega)];rfl,fun x hx=>by rw [g0 x hx];omega⟩ ho
 rw [Xd hn ho,decide_eq_true_eq]
 constructor
 ·intro h c hc x hx
  have F:Fin n c (lG n ls):=GZ ls ⟨by simp,fun x y hx hy e=>by rw [g0 x hx,g0 y hy] at e;rw [show x=y by omega]⟩ ho hc
  refine F.e x 0 hx (by omega) ?_
  rw [h,List.getD_eq_getElem?_getD,List.getD_eq_getElem?_getD,List.getElem?_replicate,List.getElem?_replicate,if_pos hx,if_pos (by omega)]
 ·intro h
  have h1:=h (fun x=>(lG n ls).getD x 0) (vV ls (by simp) ho)
  apply List.ext_getElem?
  intro x
  by_cases hx:x<n
  ·have h4:=h1 x hx
   rw [A.z,List.getD_eq_getElem?_getD] at h4
   have q:=List.getElem?_eq_getElem (l:=lG n ls) (i:=x) (by rw [A.hl];exact hx)
   rw [q] at h4 ⊢
   rw [List.getElem?_replicate,if_pos hx]
   exact congrArg some h4
  ·rw [List.getElem?_eq_none (by rw [A.hl];omega),List.getElem?_eq_none (by rw [List.length_replicate];omega)]
theorem Cn.more {n:Nat} {ls ms:List Ln} (h:Cn n ls) (hm:∀ l∈ls,l∈ms):Cn n ms:=fun c hc=>h c fun l hl=>hc l (hm l hl)
end Z
namespace Z
open PySem L2 TM PyProof.Rows
theorem uc {bag:D} {n a b:Nat} (hB:Bag bag) (ha:a<n) (hb:b<n) (hne:a≠b) {Q:D->Option D->Prop} (h:∀ (bag':D) (l:Ln),Bag bag'->l.Ok n->(l.a=a∧l.b=b∨l.a=b∧l.b=a)->Q l.d (some bag')):iz [bag,.int a,.int b] Q:=by
 dsimp? only [iz]
 refine cF (many:=9) hB (by decide) fun bag1 r1 hB1 h1=>?_
 dsimp? only [hB1.clean]
 refine cF (many:=100) hB1 (by decide) fun bag2 r2 hB2 h2=>?_
 dsimp? only [hB2.clean]
 refine cF (many:=2) hB2 (by decide) fun bag3 r3 hB3 h3=>?_
 have ec:(1:Int)+(r1:Int)=((1+r1:Nat):Int):=by omega
 rw [ec]
 dsimp? only [hB3.clean]
 refine vN (fun hc=>?_) fun hc=>?_
 ·dsimp? only
  exact h bag3 ⟨b,a,1+r1,r2⟩ hB3 ⟨hb,ha,Ne.symm hne,⟨by show 1<=1+r1;omega,by show 1+r1<=9;omega⟩,by show r2<=99;omega⟩ (.inr ⟨rfl,rfl⟩)
 ·dsimp? only
  exact h bag3 ⟨a,b,1+r1,r2⟩ hB3 ⟨ha,hb,hne,⟨by show 1<=1+r1;omega,by show 1+r1<=9;omega⟩,by show r2<=99;omega⟩ (.inl ⟨rfl,rfl⟩)
theorem vX {ds:List D} {d:D} (h:ds.length<=100):gh ds [d]=some (ds++[d],.non):=vW _ _ (by rw [sizeLine_eq];omega)
theorem QW:∀ r:Nat,r<8 -> ∃ n:Nat,1<=n∧n<=4∧dIx [.lst true [.int 4,.int 3,.int 2,.int 4,.int 3,.int 1,.int 4,.int 2],.int (r:Int)]=some (.int n)
 | 0,_=>⟨4,by decide,by decide,rfl⟩
 | 1,_=>⟨3,by decide,by decide,rfl⟩
 | 2,_=>⟨2,by decide,by decide,rfl⟩
 | 3,_=>⟨4,by decide,by decide,rfl⟩
 | 4,_=>⟨3,by decide,by decide,rfl⟩
 | 5,_=>⟨1,by decide,by decide,rfl⟩
 | 6,_=>⟨4,by decide,by decide,rfl⟩
 | 7,_=>⟨2,by decide,by decide,rfl⟩
 | n+8,h=>by omega
theorem Sx {n:Nat} {ls:List Ln} (h:∀ p,1<=p->p<n -> ∃ l∈ls,∃ q,q<p∧(l.a=p∧l.b=q∨l.a=q∧l.b=p)):Cn n ls:=fun c hc=>by
 have:∀ x,∀ y,y<=x->y<n->c y=c 0:=by
  intro x
  induction x with
  | zero=>intro y hy _;rw [show y=0 by omega]
  | succ x ih=>
   intro y hy hyn
   by_cases e:y=0
   ·rw [e]
   ·obtain ⟨l,hl,q,hq,hpq⟩:=h y (by omega) hyn
    have h1:=hc l hl
    have h2:=ih q (by omega) (by omega)
    rcases hpq with ⟨e1,e2⟩ | ⟨e1,e2⟩
    ·rw [e1,e2] at h1;rw [h1,h2]
    ·rw [e1,e2] at h1;rw [← h1,h2]
 exact fun x hx=>this x x (Nat.le_refl _) hx
theorem Ey {bag:D} (hB:Bag bag) {Q:D->Option D->Prop} (h:∀ (bag':D) (n:Nat) (ls:List Ln),Bag bag'->Good n ls->(n=1->ls=[])->Q (fD n ls) (some bag')):jd [bag] Q:=by
 have p62:(2:Int) ^ 62=4611686018427387904:=by decide
 dsimp? only [jd]
 refine cF (many:=8) hB (by decide) fun bag1 r hB1 hr=>?_
 obtain ⟨n,hn1,hn4,hix⟩:=QW r hr
 have e1:((n:Int) - 1).toNat=n - 1:=by omega
 dsimp? only [hB1.clean,hix]
 rw [e1]
 refine bC ⟨by omega,by omega,by omega,by omega,by omega⟩ ?_
 (try dsimp? only)
 refine cR (fun k ρ => ∃ (bag:D) (ls:List Ln) (x3 x4 x5 x6:Option D),ρ = [some bag,some (.int n),some (.lst true (ls.map Ln.d)),x3,x4,x5,x6]∧Bag bag∧ls.length=k∧(∀ l∈ls,l.Ok n) ∧ ∀ p,1<=p->p<1+k -> ∃ l∈ls,∃ q,q<p∧(l.a=p∧l.b=q∨l.a=q∧l.b=p)) 0 ⟨bag1,[],_,_,_,_,rfl,hB1,rfl,fun l h=>by simp at h,fun p h1 h2=>by omega⟩ ?_ ?_
 ·rintro k d ρ hd ⟨bag,ls,x3,x4,x5,x6,rfl,hB,hll,ho,ht⟩ P hP
  obtain ⟨hk,rfl⟩:=iK hd
  rw [Nat.zero_add] at hll ht
  have ec:(1:Int)+(k:Int)=((1+k:Nat):Int):=by omega
  rw [ec]
  dsimp? only
  refine cF (many:=1+k) hB (by omega) fun bag2 q hB2 hq=>?_
  dsimp? only [hB2.clean]
  refine uc (n:=n) hB2 (a:=1+k) (b:=q) (by omega) (by omega) (by omega) fun bag3 l hB3 hl hab=>?_
  dsimp? only [hB3.clean,vX (ds:=ls.map Ln.d) (d:=l.d) (by rw [List.length_map];omega)]
  have e2:ls.map Ln.d++[l.d]=(ls++[l]).map Ln.d:=by rw [List.map_append];rfl
  rw [e2]
  refine hP _ ⟨bag3,ls++[l],_,_,_,_,rfl,hB3,by simp [hll],fun l' h'=>?_,fun p h1 h2=>?_⟩
  ·rcases List.mem_append.mp h' with z | z
   ·exact ho l' z
   ·rw [List.mem_singleton.mp z];exact hl
  ·by_cases e:p=1+k
   ·exact ⟨l,by simp,q,by omega,by rw [e];rcases hab with ⟨z1,z2⟩ | ⟨z1,z2⟩ <;> simp [z1,z2]⟩
   ·obtain ⟨l',h',q',hq',z⟩:=ht p h1 (by omega)
    exact ⟨l',by simp [h'],q',hq',z⟩
 rintro ρ ⟨bag2,ls,x3,x4,x5,x6,rfl,hB2,hll,ho,ht⟩
 rw [jT,Nat.zero_add] at hll ht
 have hcn:Cn n ls:=Sx fun p h1 h2=>ht p h1 (by omega)
 have ed:(7:Int) - (ls.length:Int)=((7 - ls.length:Nat):Int):=by omega
 dsimp? only [List.length_map]
 rw [ed]
 refine cF (many:=7 - ls.length) hB2 (by omega) fun bag3 t hB3 ht3=>?_
 obtain ⟨u,hu,hu2⟩:∃ u:Nat,(u=0∨1<n)∧u<=t∧(t:Int)*(if decide ((1:Int)<(n:Int))=true then 1 else 0)=(u:Int):=by
  by_cases c:1<n
  ·exact ⟨t,.inr c,Nat.le_refl _,by rw [if_pos (by rw [decide_eq_true_eq];omega)];omega⟩
  ·exact ⟨0,.inl rfl,by omega,by rw [if_neg (by rw [decide_eq_true_eq];omega)];omega⟩
 have cb1:iw t (if decide ((1:Int)<(n:Int))=true then 1 else 0)=true:=cb (m:=5) (n:=5) (iY (m:=32) (by omega) (by decide)) (iY (m:=32) (by split <;> decide) (by decide)) (by decide)
 have eu:(u:Int).toNat=u:=by omega
 dsimp? only [hB3.clean,cb1]
 rw [hu2.2,eu]
 refine bC ⟨by omega,by omega,by omega⟩ ?_
 (try dsimp? only)
 refine cR (fun k ρ => ∃ (bag:D) (ls:List Ln) (x3 x4 x5 x6:Option D),ρ = [some bag,some (.int n),some (.lst true (ls.map Ln.d)),x3,x4,x5,x6]∧Bag bag∧ls.length=n - 1+k∧(∀ l∈ls,l.Ok n)∧Cn n ls) 0 ⟨bag3,ls,_,_,_,_,rfl,hB3,hll,ho,hcn⟩ ?_ ?_
 ·rintro k d ρ hd ⟨bag,ls,x3,x4,x5,x6,rfl,hB,hll,ho,hcn⟩ P hP
  obtain ⟨hk,rfl⟩:=iK hd
  rw [Nat.zero_add] at hll
  have hn2:1<n:=by omega
  have hn0:(n:Int)≠0:=by omega
  dsimp? only [Int.zero_add]
  refine cF (many:=n) hB (by omega) fun bag5 one hB5 hone=>?_
  dsimp? only [hB5.clean]
  rw [show (n:Int) - 1=((n - 1:Nat):Int) by omega]
  refine cF (many:=n - 1) hB5 (by omega) fun bag6 v hB6 hv=>?_
  obtain ⟨w,ew,hw,hwo⟩:∃ w:Nat,((one:Int)+1+(v:Int)).fmod (n:Int)=(w:Int)∧w<n∧one≠w:=by
   refine ⟨(one+1+v) % n,?_,Nat.mod_lt _ (by omega),?_⟩
   ·rw [show (one:Int)+1+(v:Int)=((one+1+v:Nat):Int) by omega,Int.fmod_eq_emod_of_nonneg _ (by omega),Int.natCast_emod]
   ·by_cases c:one+1+v<n
    ·rw [Nat.mod_eq_of_lt c];omega
    ·rw [Nat.mod_eq_sub_mod (by omega),Nat.mod_eq_of_lt (by omega)];omega
  dsimp? only [hB6.clean,hn0,ew,List.length_map]
  rw [show (ls.length:Int)+1=((ls.length+1:Nat):Int) by omega]
  refine cF (many:=ls.length+1) hB6 (by omega) fun bag7 p hB7 hp=>?_
  dsimp? only [hB7.clean]
  refine uc (n:=n) hB7 (a:=one) (b:=w) hone hw hwo fun bag8 l hB8 hl _=>?_
  dsimp? only [hB8.clean,oN (ds:=ls.map Ln.d) (a:=p) (d:=l.d) (by rw [List.length_map];omega) (by rw [List.length_map];omega)]
  have e2:(ls.map Ln.d).take p++l.d :: (ls.map Ln.d).drop p=(ls.take p++l :: ls.drop p).map Ln.d:=by rw [List.map_append,List.map_cons,List.map_take,List.map_drop]
  rw [e2]
  refine hP _ ⟨bag8,ls.take p++l :: ls.drop p,_,_,_,_,rfl,hB8,?_,fun l' h'=>?_,hcn.more fun l' h'=>?_⟩
  ·rw [List.length_append,List.length_cons,List.length_take,List.length_drop];omega
  ·rcases List.mem_append.mp h' with z | z
   ·exact ho l' (List.mem_of_mem_take z)
   ·rcases List.mem_cons.mp z with rfl | z
    ·exact hl
    ·exact ho l' (List.mem_of_mem_drop z)
  ·rw [← List.take_append_drop p ls] at h'
   rcases List.mem_append.mp h' with z | z
   ·exact List.mem_append_left _ z
   ·exact List.mem_append_right _ (List.mem_cons_of_mem _ z)
 rintro ρ ⟨bag4,ls',x3,x4,x5,x6,rfl,hB4,hll',ho',hcn'⟩
 rw [jT,Nat.zero_add] at hll'
 dsimp? only [dF]
 refine h bag4 n ls' hB4 ⟨hn1,hn4,by omega,ho',(Gf hn1 ho').mpr hcn'⟩ fun e=>?_
 have:ls'.length=0:=by omega
 exact List.length_eq_zero_iff.mp this
end Z
namespace Z
open PySem L2
def gA:dg:=fnS 2 2 true
 (aR (bK 2 (sC (.int 0)))
 (aR (il (cZ (.nam 1)) (gN 3)
 (bK 2 (sDo cI [.val (sDo dH [.nam 2,.val (sDo um [.val (sC (.int 10)),.val (sC (.int 6))])]),.val (cG 2 bh 0 [.val (sDo um [.val (sC (.int 10)),.val (sC (.int 6))])])])))
 (nU 2)))
def fM:dg:=fnS 2 0 false
 (aR (sIf (Du (kI (ph (.val (sDo oh [.nam 0,.val (sC (.ty "list"))])))) (Du (tB' (sDo dNe [.nam 0,.nam 1])) (kI (ph (.val (sDo Qe [.val (cO (gq (cC 0)) 1 [] (gN 0) (fu) (sDo oh [.nam 0,.val (sC (.ty "tuple"))]))]))))))
 (cT (sC (.bl false)))
 (eO))
 (cT (Dj (sDo Qf [.val (cO (gq (cC 0)) 1 [] (gN 0) (fu) (RJ (sDo oh [.val (aW 0 (.val (sC (.int 0)))),.val (sC (.ty "bool"))]) (sDo oh [.val (aW 0 (.val (sC (.int 1)))),.val (sC (.ty "bool"))])))]))))
end Z
namespace Z
open PySem L2 TM
theorem Zh:um [.int 10,.int 6]=some (.int 1000000):=by rw [uw (by decide) (by decide) (by decide)];rfl
def Inj (n:Nat) (A:Mx):Prop:=∀ y:Nat->Rat,(∀ i,i<n->cj (fun j=>A i j*y j) n=0) -> ∀ j,j<n->y j=0
structure Tab (n m:Nat) (rs:List (List Rat)):Prop where
 len:rs.length=n
 w:∀ r∈rs,r.length=n
 b:∀ r∈rs,∀ x∈r,Bq m x
 i:Inj n (ent rs)
theorem eF.ix {ds:List D} {rs:List (List Rat)} (h:eF ds rs) {i:Nat} {r:List Rat} (e:rs[i]? = some r):∃ t ds',ixF (.lst true ds) (i:Int)=some (fU r,t)∧eF ds' rs ∧ ∀ (x y:Option D) (l:En),NB (x :: y :: some (.lst true ds) :: l) 2 t=x :: y :: some (.lst true ds') :: l:=by
 obtain ⟨o,hd⟩:=h.get e
 cases o with
 | false=>exact ⟨none,ds,ji _ _ (mO hd) (aN r),h,fun x y l=>rfl⟩
 | true=>
  have hl:=(List.getElem?_eq_some_iff.mp hd).1
  refine ⟨some (.lst true (ds.set i (fU r))),ds.set i (fU r),?_,⟨by rw [List.length_set];exact h.1,fun j r' e'=>?_⟩,fun x y l=>rfl⟩
  ·have:=Qv (o:=true) (xs:=ds) (k:=(i:Int)) (n:=i) (d:=.lst true (r.map fr)) (by unfold ixN;rw [if_pos (by omega),if_pos (by omega)];simp) hd rfl
   rw [this,show (D.lst true (r.map fr)).fz=fU r from aP r]
  ·by_cases c:i=j
   ·subst c
    rw [e] at e'
    cases e'
    exact ⟨false,by rw [List.getElem?_set_self hl];rfl⟩
   ·rw [List.getElem?_set_ne c]
    exact h.2 j r' e'
theorem eF.set {ds:List D} {rs:List (List Rat)} (h:eF ds rs) {i:Nat} {r:List Rat} (hi:i<rs.length):eF (ds.set i (zV r)) (rs.set i r):=⟨by rw [List.length_set,List.length_set];exact h.1,fun j r' e'=>by
 have hl:i<ds.length:=by rw [h.1];exact hi
 by_cases c:i=j
 ·subst c
  rw [List.getElem?_set_self hi] at e'
  cases e'
  exact ⟨true,by rw [List.getElem?_set_self hl];rfl⟩
 ·rw [List.getElem?_set_ne c] at e' ⊢
  exact h.2 j r' e'⟩
end Z
namespace Z
open PySem L2 TM
theorem Pk {n i j:Nat} {f:Nat->Nat->Rat} (hi:i<n) (hj:j<n):ent ((List.range n).map fun i=>(List.range n).map fun j=>f i j) i j=f i j:=by
 rw [jg,List.getElem?_map,List.getElem?_range hi,Option.map_some,Option.getD_some,List.getD_eq_getElem?_getD,List.getElem?_map,List.getElem?_range hj];rfl
end Z
namespace Z
open PySem L2 TM
theorem rW {α : Type} (g : α -> Bool):∀ xs:List α,D.bools (xs.map fun x=>D.bl (g x))=some (xs.map g)
 | []=>rfl
 | x :: xs=>by rw [List.map_cons,D.bools,rW g xs];rfl
theorem Kc {α : Type} (o:Bool) (g : α -> Bool) (xs:List α):Qf [.lst o (xs.map fun x=>D.bl (g x))]=some (.bl (xs.any g)):=by
 show (D.bools _).map _=_
 rw [rW g xs]
 show some (D.bl ((xs.map g).any id))=_
 rw [List.any_map];rfl
theorem Ka {α : Type} (o:Bool) (g : α -> Bool) (xs:List α):Qe [.lst o (xs.map fun x=>D.bl (g x))]=some (.bl (xs.all g)):=by
 show (D.bools _).map _=_
 rw [rW g xs]
 show some (D.bl ((xs.map g).all id))=_
 rw [List.all_map];rfl
theorem Qt (o:Bool) (ds:List D):oh [.lst o ds,.ty "list"]=some (.bl true):=rfl
theorem Uy (q:Rat):oh [fr q,.ty "tuple"]=some (.bl true):=rfl
theorem Qs (i:Int):oh [.int i,.ty "bool"]=some (.bl false):=rfl
theorem tY {xs:List Rat} (hl:xs.length<=100) {Q:D->Option D->Prop} (h:Q (.bl true) none):fM [.lst false (xs.map fr),.lst false (xs.map fr)] Q:=by
 have hne:dNe [D.lst false (xs.map fr),D.lst false (xs.map fr)]=some (.bl false):=Bv (MP false xs) (by decide) rfl
 dsimp? only [fM,aB,aF,aG,aK,aC,au,aq,aZ,bw,aD,aO,aN,aP,az,Int.zero_add,List.length_map,Qt,hne]
 refine bC (by omega) ?_
 (try dsimp? only)
 refine bY fr (fun q=>D.bl ((fun _=>true) q)) (fun ρ => ∃ x,ρ = [x]) ⟨_,rfl⟩ ?_ ?_
 ·rintro q _ ρ ⟨x,rfl⟩ P hP
  dsimp? only [aB,aF,aG,aK,aC,au,aq,aZ,bw,aD,aO,aN,aP,az,Int.zero_add,Uy]
  exact hP _ ⟨_,rfl⟩
 rintro ρ ⟨x,rfl⟩
 have ha:xs.all (fun _=>true)=true:=by simp
 dsimp? only [aB,aF,aG,aK,aC,au,aq,aZ,bw,aD,aO,aN,aP,az,Int.zero_add,List.length_map,Ka true (fun _=>true) xs,ha]
 refine bC (by omega) ?_
 (try dsimp? only)
 refine bY fr (fun q=>D.bl ((fun _=>false) q)) (fun ρ => ∃ x,ρ = [x]) ⟨_,rfl⟩ ?_ ?_
 ·rintro q _ ρ ⟨x,rfl⟩ P hP
  dsimp? only [aB,aF,aG,aK,aC,au,aq,aZ,bw,aD,aO,aN,aP,az,Int.zero_add,mX,lN,Qs]
  exact hP _ ⟨_,rfl⟩
 rintro ρ ⟨x,rfl⟩
 have hb:xs.any (fun _=>false)=false:=by simp
 dsimp? only [aB,aF,aG,aK,aC,au,aq,aZ,bw,aD,aO,aN,aP,az,Int.zero_add,Kc true (fun _=>false) xs,hb]
 exact h
end Z
namespace Z
open PySem L2 TM
def ind (i a:Nat):Int:=if i=a then 1 else 0
def Ew (l:Ln) (i j:Nat):Int:=(ind i l.a - ind i l.b)*(ind j l.a - ind j l.b)*(l.s:Int)
def lap:List Ln->Nat->Nat->Int
 | [],_,_=>0
 | l :: ls,i,j=>Ew l i j+lap ls i j
theorem Hs (i j:Nat):∀ ls ms:List Ln,lap (ls++ms) i j=lap ls i j+lap ms i j
 | [],ms=>by simp [lap]
 | l :: ls,ms=>by rw [List.cons_append,lap,Hs i j ls ms,lap];omega
theorem Cz (ls:List Ln) (l:Ln) (i j:Nat):lap (ls++[l]) i j=lap ls i j+Ew l i j:=by rw [Hs];simp [lap]
def iZ (i a:Nat):Rat:=if i=a then 1 else 0
def flow (x:Nat->Rat):List Ln->Nat->Rat
 | [],_=>0
 | l :: ls,i=>(iZ i l.a - iZ i l.b)*((l.s:Int):Rat)*(x l.a - x l.b)+flow x ls i
theorem tW (i a:Nat):((ind i a:Int):Rat)=iZ i a:=by unfold ind iZ;split <;> rfl
theorem rK {n a:Nat} (h:a<n) (x:Nat->Rat):cj (fun j=>iZ j a*x j) n=x a:=by
 rw [iV (k:=a) h fun i _ hi=>by unfold iZ;rw [if_neg hi];grind]
 unfold iZ;rw [if_pos rfl];grind
theorem rM {n a:Nat} (h:a<n):cj (fun j=>iZ j a) n=1:=by
 have:=rK h fun _=>1
 rw [← this]
 exact bQ n fun i _=>by grind
theorem rJ (f g:Nat->Rat) (n:Nat):cj (fun i=>f i - g i) n=cj f n - cj g n:=by
 have h:=gU (fun i=>f i - g i) g n
 rw [bQ n (g:=f) fun i _=>by grind] at h
 grind
theorem qP {n:Nat} (x:Nat->Rat) (i:Nat):∀ ls:List Ln,(∀ l∈ls,l.Ok n)->cj (fun j=>((lap ls i j:Int):Rat)*x j) n=flow x ls i
 | [],_=>je n fun j _=>by simp [lap]
 | l :: ls,ho=>by
  have ih:=qP x i ls fun l' h'=>ho l' (List.mem_cons_of_mem _ h')
  have o:=ho l List.mem_cons_self
  have e:∀ j,((lap (l :: ls) i j:Int):Rat)*x j=((iZ i l.a - iZ i l.b)*((l.s:Int):Rat))*(iZ j l.a*x j - iZ j l.b*x j)+((lap ls i j:Int):Rat)*x j:=fun j=>by
   rw [lap,Rat.intCast_add,Ew,Rat.intCast_mul,Rat.intCast_mul,Rat.intCast_sub,Rat.intCast_sub,tW,tW,tW,tW];grind
  rw [bQ n fun j _=>e j,gU,ih,gW,rJ,rK o.a,rK o.b,flow]
theorem Ci {n:Nat} (x:Nat->Rat):∀ ls:List Ln,(∀ l∈ls,l.Ok n)->cj (fun i=>flow x ls i) n=0
 | [],_=>je n fun j _=>rfl
 | l :: ls,ho=>by
  have ih:=Ci x ls fun l' h'=>ho l' (List.mem_cons_of_mem _ h')
  have o:=ho l List.mem_cons_self
  have e:∀ i,flow x (l :: ls) i=(((l.s:Int):Rat)*(x l.a - x l.b))*(iZ i l.a - iZ i l.b)+flow x ls i:=fun i=>by rw [flow];grind
  rw [bQ n fun i _=>e i,gU,ih,gW,rJ,rM o.a,rM o.b];grind
def en (x:Nat->Rat):List Ln->Rat
 | []=>0
 | l :: ls=>((l.s:Int):Rat)*((x l.a - x l.b)*(x l.a - x l.b))+en x ls
theorem Hb {n:Nat} (x:Nat->Rat):∀ ls:List Ln,(∀ l∈ls,l.Ok n)->cj (fun i=>x i*flow x ls i) n=en x ls
 | [],_=>je n fun j _=>by simp [flow]
 | l :: ls,ho=>by
  have ih:=Hb x ls fun l' h'=>ho l' (List.mem_cons_of_mem _ h')
  have o:=ho l List.mem_cons_self
  have e:∀ i,x i*flow x (l :: ls) i=(((l.s:Int):Rat)*(x l.a - x l.b))*(iZ i l.a*x i - iZ i l.b*x i)+x i*flow x ls i:=fun i=>by rw [flow];grind
  rw [bQ n fun i _=>e i,gU,ih,gW,rJ,rK o.a,rK o.b,en];grind
theorem TV (x:Rat):0<=x*x:=by
 rcases Rat.le_total (a:=0) (b:=x) with h | h
 ·exact Rat.mul_nonneg h h
 ·have h2:0 <= -x:=by grind
  have:=Rat.mul_nonneg h2 h2
  grind
theorem RZ {x:Rat} (h:x*x=0):x=0:=by
 rcases Rat.mul_eq_zero.mp h with h | h <;> exact h
theorem Ys (s:Nat):(0:Rat)<=((s:Int):Rat):=by
 have:((0:Int):Rat)<=((s:Int):Rat):=Rat.intCast_le_intCast.mpr (by omega)
 simpa using this
theorem Te (x:Nat->Rat):∀ ls:List Ln,0<=en x ls
 | []=>by simp [en]
 | l :: ls=>by
  have h1:=Te x ls
  have h2:=Rat.mul_nonneg (Ys l.s) (TV (x l.a - x l.b))
  rw [en];grind
theorem Gs {n:Nat} {x:Nat->Rat}:∀ ls:List Ln,(∀ l∈ls,l.Ok n)->en x ls=0 -> ∀ l∈ls,x l.a=x l.b
 | l :: ls,ho,h,l',h'=>by
  have h1:=Te x ls
  have h2:=Rat.mul_nonneg (Ys l.s) (TV (x l.a - x l.b))
  rw [en] at h
  have e1:((l.s:Int):Rat)*((x l.a - x l.b)*(x l.a - x l.b))=0:=by grind
  have e2:en x ls=0:=by grind
  rcases List.mem_cons.mp h' with rfl | h'
  ·have hs:=(ho l' List.mem_cons_self).s.1
   have s0:((l'.s:Int):Rat)≠0:=fun z=>by
    have:=(Rat.intCast_inj (a:=(l'.s:Int)) (b:=0)).mp (by simpa using z)
    omega
   rcases Rat.mul_eq_zero.mp e1 with e | e
   ·exact absurd e s0
   ·have:=RZ e;grind
  ·exact Gs ls (fun l' h'=>ho l' (List.mem_cons_of_mem _ h')) e2 l' h'
theorem qJ {n:Nat} {ls:List Ln} (hc:Cn n ls) (ho:∀ l∈ls,l.Ok n) {x:Nat->Rat} (h0:x 0=0) (h:∀ i,1<=i->i<n->flow x ls i=0):∀ i,i<n->x i=0:=by
 have e:en x ls=0:=by
  rw [← Hb x ls ho]
  refine je n fun i hi=>?_
  by_cases c:i=0
  ·rw [c,h0];grind
  ·rw [h i (by omega) hi];grind
 have hl:=Gs ls ho e
 intro i hi
 have:=hc (fun j=>if x j=0 then 0 else 1) (fun l hm=>by show (if _ then _ else _)=(if _ then _ else _);rw [hl l hm]) i hi
 rw [h0,if_pos rfl] at this
 by_cases c:x i=0
 ·exact c
 ·rw [if_neg c] at this;cases this
theorem vC (x y:Nat->Rat) (i:Nat):∀ ls:List Ln,flow (fun j=>x j+y j) ls i=flow x ls i+flow y ls i
 | []=>by simp [flow];grind
 | l :: ls=>by rw [flow,flow,flow,vC x y i ls];grind
theorem vG (c:Rat) (x:Nat->Rat) (i:Nat):∀ ls:List Ln,flow (fun j=>c*x j) ls i=c*flow x ls i
 | []=>by simp [flow]
 | l :: ls=>by rw [flow,flow,vG c x i ls];grind
structure Is (n:Nat) (ls:List Ln) (ps hs:List Rat):Prop where
 l:hs.length=n
 z:hs.getD 0 0=0
 g:∀ i,1<=i->i<n->flow (fun j=>hs.getD j 0) ls i=ps.getD i 0
theorem Ly {a b:List Rat} {n:Nat} (ha:a.length=n) (hb:b.length=n) (h:∀ i,i<n->a.getD i 0=b.getD i 0):a=b:=by
 apply List.ext_getElem?
 intro i
 by_cases hi:i<n
 ·have h1:=h i hi
  have q1:=List.getElem?_eq_getElem (l:=a) (i:=i) (by omega)
  have q2:=List.getElem?_eq_getElem (l:=b) (i:=i) (by omega)
  rw [List.getD_eq_getElem?_getD,List.getD_eq_getElem?_getD,q1,q2] at h1
  rw [q1,q2];exact congrArg some h1
 ·rw [List.getElem?_eq_none (by omega),List.getElem?_eq_none (by omega)]
theorem Is.one {n:Nat} {ls:List Ln} {ps h1 h2:List Rat} (hc:Cn n ls) (ho:∀ l∈ls,l.Ok n) (I:Is n ls ps h1) (J:Is n ls ps h2):h1=h2:=by
 refine Ly I.l J.l fun i hi=>?_
 have:=qJ hc ho (x:=fun j=>h1.getD j 0+(-1)*h2.getD j 0) (by rw [I.z,J.z];grind) (fun k hk1 hk2=>by
  rw [vC,vG,I.g k hk1 hk2,J.g k hk1 hk2];grind) i hi
 grind
end Z
namespace L2
open PySem PySem.Spec PyProof.Rows
section
variable {K:PySem.W.Frag} {F:Addr->Prop} {H H':Hp}
theorem Mm {p:Addr} {us:List V} {v:V} {d:D} {L:List Addr} (r:Rp K F H v d L) (hp:H p=some (.lst us)) (hk:∀ a o,a≠p->H a=some o->H' a=some o) (hF:¬ F p) (hL:p ∉ L):Rp K F H' v d L:=
 r.mono (fun _ h=>h) (fun a o e st=>hk a o (fun z=>by subst z;rw [hp] at e;cases e;exact st) e) (fun a o f e=>hk a o (fun z=>by subst z;exact hF f) e) fun a ha o e=>hk a o (fun z=>by subst z;exact hL ha) e
theorem Hr {p:Addr} {us:List V} {vs:List V} {ds:List D} {L:List Addr} (r:Rps K F H vs ds L) (hp:H p=some (.lst us)) (hk:∀ a o,a≠p->H a=some o->H' a=some o) (hF:¬ F p) (hL:p ∉ L):Rps K F H' vs ds L:=
 r.mono (fun _ h=>h) (fun a o e st=>hk a o (fun z=>by subst z;rw [hp] at e;cases e;exact st) e) (fun a o f e=>hk a o (fun z=>by subst z;exact hF f) e) fun a ha o e=>hk a o (fun z=>by subst z;exact hL ha) e
theorem Rps.setIn:∀ {vs:List V} {ds:List D} {L:List Addr} {k:Nat} {es:List D},Rps K F H vs ds L->ds[k]? = some (.lst true es)->L.Nodup ->
  ∃ p us M,vs[k]? = some (.ref p)∧H p=some (.lst us)∧Rps K F H us es M∧p∈L∧p ∉ M ∧
   ∀ (H':Hp) (es':List D) (us':List V),(∀ a o,a≠p->H a=some o->H' a=some o)->H' p=some (.lst us')->Rps K F H' us' es' M -> ¬ F p->Rps K F H' vs (ds.set k (.lst true es')) L
 | _,_,_,k,es,.nil,e,_=>by simp at e
 | _,_,_,0,es,.cons (L:=L) (M:=M) r rs,e,nd=>by
  simp at e
  subst e
  cases r with
  | @own a us _ L0 ha ru=>
   have hn:=List.nodup_append.mp nd
   have h0:=List.nodup_cons.mp hn.1
   refine ⟨a,us,L0,rfl,ha,ru,by simp,h0.1,fun H' es' us' hk hp hr hF=>?_⟩
   refine .cons (L:=a :: L0) (.own hp hr) (Hr rs ha hk hF fun z=>hn.2.2 a List.mem_cons_self a z rfl)
 | _,_,_,k+1,es,.cons (L:=L) (M:=M) r rs,e,nd=>by
  have hn:=List.nodup_append.mp nd
  obtain ⟨p,us,M',h1,h2,h3,h4,h5,h6⟩:=Rps.setIn (k:=k) rs (by simpa using e) hn.2.1
  refine ⟨p,us,M',by simpa using h1,h2,h3,List.mem_append_right _ h4,h5,fun H' es' us' hk hp hr hF=>?_⟩
  exact .cons (Mm r h2 hk hF fun z=>hn.2.2 p z p h4 rfl) (h6 H' es' us' hk hp hr hF)
end
end L2
namespace L2
open PySem PySem.Spec PyProof.Rows
def jU (f:Int->Int->Int) (i ja jb jv:Nat):cD:=fun ρ E=>∃ ds a b m ka kb es n,ρ[i]? = some (some (.lst true ds)) ∧ ρ[ja]? = some (some (.int a)) ∧ ρ[jb]? = some (some (.int b)) ∧ ρ[jv]? = some (some (.int m))∧ixN ds.length a=some ka∧ds[ka]? = some (.lst true es) ∧
 ixN es.length b=some kb∧es[kb]? = some (.int n)∧E.nx (ρ.set i (some (.lst true (ds.set ka (.lst true (es.set kb (.int (f n m))))))))
theorem Rps.setInt {K:PySem.W.Frag} {F:Addr->Prop} {H:Hp}:∀ {vs:List V} {ds:List D} {L:List Addr} {k:Nat} {n m:Int},Rps K F H vs ds L->ds[k]? = some (.int n)->Rps K F H (vs.set k (.int m)) (ds.set k (.int m)) L
 | _,_,_,k,_,_,.nil,e=>by simp at e
 | _,_,_,0,_,m,.cons (L:=L) (M:=M) r rs,e=>by
  simp at e
  subst e
  cases r
  exact .cons (L:=[]) (.int m) rs
 | _,_,_,k+1,_,_,.cons (L:=L) (M:=M) r rs,e=>.cons r (Rps.setInt (k:=k) rs (by simpa using e))
section
variable {X:Cx} {kp:Nat->Bool}
theorem LC:Xf X (NK X.K):=by
 intro pins s σ H o i ov iv Q I ro ri h
 obtain ⟨p,xs,k,z,rfl,rfl,hq,he,q⟩:=h
 cases ro
 obtain ⟨t,rfl⟩:=ri
 obtain ⟨its,r,pl,hz⟩:=I.list hq
 obtain ⟨j,h1,h2,h3,h4,h5⟩:=uv he
 obtain ⟨w,ew,rw'⟩:=r.get h2
 have hl:=r.length
 have hn:=oJ
 have fin:EP X pins σ Q w s:=⟨z,H,I,rw',q⟩
 by_cases h0:0<=k
 ·have hj:k.toNat=j:=by
   rw [seqIndex_of h0 h5] at h1
   exact Option.some.inj h1
  exact wpAny_getItem_list pl.isList h0 (by omega) (by rw [hj];simpa using ew) fin
 ·have hj:(k+(its.toArray.size:Int)).toNat=j:=by
   rw [seqIndex_neg (by omega) h4] at h1
   rw [List.size_toArray,← hl]
   exact Option.some.inj h1
  exact wpAny_getItem_list_neg pl.isList (by omega) (by rw [List.size_toArray] <;> omega) (by omega) (by rw [hj];simpa using ew) fin
theorem Sy {f:Int->Int->Int} {i ja jb jv:Nat} {D:Ends} {σ : St} {H:Hp} (h:WL X.K kp (jU f i ja jb jv) D σ H):TX (tOp (NK X.K) (xM i) (xM ja)) (xM jb) (xM jv) (NK X.K) (ipI f) HJ D σ H:=by
 obtain ⟨F,ρ,Ls,R,E,w,⟨ds,a,b,m,ka,kb,es,n,e1,e2,e3,e4,e5,e6,e7,e8,q⟩,pe⟩:=h
 obtain ⟨v1,h1,r1⟩:=w.sl i _ e1
 obtain ⟨v2,h2,r2⟩:=w.sl ja _ e2
 obtain ⟨v3,h3,r3⟩:=w.sl jb _ e3
 obtain ⟨v4,h4,r4⟩:=w.sl jv _ e4
 have nd:=w.nd i
 have i2:=r2.isInt
 have i3:=r3.isInt
 have i4:=r4.isInt
 subst i2;subst i3;subst i4
 generalize hL:Ls i=Li at r1 nd
 cases r1 with
 | @own p vs _ L0 hp rs=>
  have nd0:=List.nodup_cons.mp nd
  obtain ⟨p2,us,M,g1,g2,g3,g4,g5,g6⟩:=rs.setIn e6 nd0.2
  have hn:p2≠p:=fun z=>nd0.1 (by rw [← z];exact g4)
  have hF:¬ F p2:=w.nf i p2 (by rw [hL];exact List.mem_cons_of_mem _ g4)
  obtain ⟨vn,Mn,g7,g8,_⟩:=g3.get e8
  cases g8
  have at1:atI vs a=some (.ref p2):=by unfold atI;rw [rs.length,e5];exact g1
  have at2:atI us b=some (.int n):=by unfold atI;rw [g3.length,e7];exact g7
  refine ⟨_,h1,_,h2,p,vs,a,_,rfl,rfl,.of hp,at1,_,h3,p2,us,b,_,rfl,rfl,.of g2,at2,_,h4,n,m,rfl,rfl,p2,us,b,kb,rfl,rfl,g2,by rw [g3.length];exact e7,?_⟩
  have hk:∀ a' o,a'≠p2->H a'=some o->upd H p2 (.lst (us.set kb (.int (f n m)))) a'=some o:=fun a' o z e=>by rw [bJ z];exact e
  have nr:Rps X.K F (upd H p2 (.lst (us.set kb (.int (f n m))))) vs (ds.set ka (.lst true (es.set kb (.int (f n m))))) L0:=
   g6 _ _ _ hk cW (Hr (g3.setInt e8) g2 hk hF g5) hF
  have hi:i < ρ.length:=(List.getElem?_eq_some_iff.mp e1).1
  refine pe.nx σ _ (ρ.set i (some (.lst true (ds.set ka (.lst true (es.set kb (.int (f n m)))))))) F Ls ?_ ⟨fun a' o e z=>?_,fun _ h=>h,fun j a' h=>.inl ⟨j,h⟩,fun a' h=>absurd h (by simp)⟩ (fun _ _=>rfl) q
  ·exact {
    len:=by rw [List.length_set];exact w.len
    sl:=fun j d e=>by
     by_cases c:j=i
     ·subst c
      rw [List.getElem?_set_self hi] at e
      cases e
      exact ⟨_,h1,by rw [hL];exact .own (hk p _ (Ne.symm hn) hp) nr⟩
     ·rw [List.getElem?_set_ne (Ne.symm c)] at e
      obtain ⟨v,hv,r⟩:=w.sl j d e
      exact ⟨v,hv,Mm r g2 hk hF fun z=>c (w.dj j i p2 z (by rw [hL];exact List.mem_cons_of_mem _ g4))⟩
    em:=fun j hj=>w.em j fun d e=>by
     by_cases c:j=i
     ·subst c
      exact hj _ (List.getElem?_set_self hi)
     ·exact hj d (by rw [List.getElem?_set_ne (Ne.symm c)];exact e)
    nd:=w.nd
    dj:=w.dj
    rd:=w.rd
    rj:=w.rj
    nf:=w.nf
    nr:=w.nr
    tr:=fun a' h=>by
     obtain ⟨xs,e⟩:=w.tr a' h
     exact ⟨xs,hk a' _ (fun z=>w.rj i p2 (by rw [hL];exact List.mem_cons_of_mem _ g4) (by rw [← z];exact h)) e⟩
    ft:=fun a' h=>by
     by_cases c:a'=p2
     ·rw [c,cW];simp
     ·rw [bJ c];exact w.ft a' h }
  ·exact hk a' o (fun c=>z i (by rw [hL,c];exact List.mem_cons_of_mem _ g4)) e
theorem lH {f:Int->Int->Int} {op:Operator} {i ja jb jv:Nat} {x y z u:Str} {p0 p1 p2 p3 tp1 tpos pos:Pos} (ho:PIp X op (ipI f)) (hx:PE X (.Name x p0) (xM i)) (hy:PE X (.Name y p1) (xM ja)) (hz:PE X (.Name z p2) (xM jb)) (hu:PE X (.Name u p3) (xM jv)) (hs:ut (.Name y p1))
  (ha:∀ ov iv new,augStore (.Name z p2) ov iv new=(do holding [new,ov,iv] (setItem ov iv new);release [new,ov,iv] [];pure .next):=by intros;rfl) :
  SS X kp (.AugAssign (.Subscript (.Subscript (.Name x p0) (.Name y p1) tp1) (.Name z p2) tpos) op (.Name u p3) pos) (jU f i ja jb jv):=
 (Rt (Nm Hq hx hy hs) hz LC hu ho set_list ha).wk fun D σ H h=>Sy h
theorem pvn {x:Str} (i:Nat) {pos:Pos} (hN:X.N[i]? = some x:=by rfl) (hv:Vis X.env.scope x:=by first | exact Or.inl rfl | exact Or.inr (Or.inl rfl) | exact Or.inr (Or.inr rfl)) (hd:(x==("__debug__" : Str))=false:=by decide)
  (hcd:(x==("__classdict__" : Str))=false:=by decide):PE X (.Name x pos) (xM i):=qt hN hv hd hcd
end
end L2
namespace L2
open PySem PySem.Spec PyProof.Rows
def sFz (s:bU):bU:=fun ρ Q=>s ρ fun d ρ'=>Q d.fz ρ'
theorem TF {X:Cx} {e:Expr} {s:bU} (h:SE X e s):SE X e (sFz s):=
 h.wk fun σ H Q ⟨F,ρ,Ls,R,Qd,w,q,k⟩=>⟨F,ρ,Ls,R,_,w,q,fun v H' d ρ' F' Ls' Ld r w' st q'=>k v H' d.fz ρ' (fun a=>F' a∨a∈Ld) Ls' [] (r.freeze (fun _ h=>.inl h) fun _ h=>.inr h) w'.give (st.trans Step.give) q'⟩
theorem GD (ρ : En) (Q:D->En->Prop) (s:bU):sFz s ρ Q=s ρ fun d ρ'=>Q d.fz ρ':=rfl
end L2
namespace L2
open PySem PySem.Spec PyProof.Rows
def SIt (t:Bool) (h:Heap) (i l:Addr) (k:Nat):Prop:=cond t (h.IsTupleIter i l k) (h.IsListIter i l k)
def SSq (t:Bool) (h:Heap) (l:Addr) (xs:Array Value):Prop:=cond t (h.IsTuple l xs) (h.IsList l xs)
def itO (t:Bool) (l:Addr):Obj:={ cls:=.type (cond t "tuple_iterator" "list_iterator"),data:=.fields #[.ref l,.int 0 0] }
theorem SIt.ext {t:Bool} {h h':Heap} {a b l:Addr} {k:Nat} (x:SIt t h a l k) (y:Heap.ExtBut b h h') (n:a≠b):SIt t h' a l k:=by
 cases t with
 | true=>exact Heap.IsTupleIter.extBut x y n
 | false=>exact Heap.IsListIter.extBut x y n
theorem SSq.ext {t:Bool} {h h':Heap} {a b:Addr} {xs:Array Value} (x:SSq t h a xs) (y:Heap.ExtBut b h h') (n:a≠b):SSq t h' a xs:=by
 cases t with
 | true=>exact Heap.IsTuple.extBut x y n
 | false=>exact Heap.IsList.extBut x y n
theorem SIt.kept {t:Bool} {h h':Heap} {a l:Addr} {k:Nat} (x:SIt t h a l k) (y:∀ o,h.get? a=some o->h'.get? a=some o):SIt t h' a l k:=by
 cases t with
 | true=>exact Heap.IsTupleIter.at x y
 | false=>exact Heap.IsListIter.at x y
theorem SIt.obj {t:Bool} {h:Heap} {a l:Addr} {k:Nat} (x:SIt t h a l k):∃ o,h.get? a=some o∧o.cls = .type (cond t "tuple_iterator" "list_iterator")∧o.data = .fields #[.ref l,.int k 0]:=by
 cases t with
 | true=>exact x
 | false=>exact x
theorem SSq.obj {t:Bool} {h:Heap} {a:Addr} {xs:Array Value} (x:SSq t h a xs):∃ o,h.get? a=some o∧o.cls = .type (cond t "tuple" "list"):=by
 cases t with
 | true=>exact let ⟨o,e,c,_⟩:=x;⟨o,e,c⟩
 | false=>exact let ⟨o,e,c,_⟩:=x;⟨o,e,c⟩
section
variable {prog:Program} {w:World} {A:Around} {E:Value->Shared->Prop} {s:Shared}
theorem qO {t:Bool} {l:Addr} {xs:Array Value} {Q:Value->Shared->Prop} (x:SSq t s.heap l xs) (q:Q (.ref s.heap.objs.size) { s with heap:=s.heap.push (itO t l) }):wpAny (model prog w) A (pyIter (.ref l)) Q E s:=by
 cases t with
 | true=>exact wpAny_pyIter_tuple x q
 | false=>exact wpAny_pyIter_list x q
theorem Sw {a l:Addr} {k:Nat} {xs:Array Value} {v:Value} {Q:Value->Shared->Prop} (y:s.heap.IsTupleIter a l k) (z:s.heap.IsTuple l xs) (g:xs[k]? = some v)
  (q:∀ h',h'.IsTupleIter a l (k+1)->Heap.SameBut a s.heap h'->Q v { s with heap:=h' }):wpAny (model prog w) A (Builtin.SmallTypes.nextOf (.ref a)) Q E s:=by
 obtain ⟨u,gu,cu,du⟩:=id y
 obtain ⟨o2,g2,_,n2,d2⟩:=z
 unfold Builtin.SmallTypes.nextOf
 refine wpAny_bind (wpAny_callSpecial?_slot (name:=Str.ofString "__next__") y.typeIs F.slot_tuple_iterator_next (wpAny_call_entry F.slot_tuple_iterator_next y.typeIs F.entry_tuple_iterator_next ?_ (F.args_tuple_iterator_next_1 _)))
 show wpAny _ _ (field (.ref a) 0 >>= _) _ _ s
 refine wpAny_bind (wpAny_field gu du (x:=.ref l) rfl ?_)
 show wpAny _ _ (if (Value.ref l==Value.none)=true then _ else _) _ _ _;rw [if_neg (show ¬ ((Value.ref l==Value.none)=true) from nofun)]
 show wpAny _ _ (field (.ref a) 1 >>= _) _ _ s
 refine wpAny_bind (wpAny_field gu du (x:=.int k 0) rfl ?_)
 show wpAny _ _ (seqItems? (.ref l) >>= _) _ _ _;refine wpAny_bind (wpAny_seqItems g2 d2 ?_)
 simp only [Int.toNat_natCast,g]
 refine wpAny_bind (wpAny_setField gu du (by simp) (wpAny_pure ⟨v,rfl,wpAny_pure (q _ ?_ (Heap.SameBut.update ..))⟩))
 exact ⟨_,Heap.get?_update_self _ gu (Obj.isFreed_of_fields (Obj.data_mapFields du _)),(Obj.cls_mapFields ..).trans cu,by rw [Obj.data_mapFields du];simp [rawInt]⟩
theorem WF {a l:Addr} {k:Nat} {xs:Array Value} {Q:Value->Shared->Prop} (hh:A.handled=none) (y:s.heap.IsTupleIter a l k) (z:s.heap.IsTuple l xs) (g:xs[k]? = none)
  (q:∀ h' e,Heap.ExtBut a s.heap h'->(∃ o,h'.get? e=some o∧o.cls = .type "StopIteration")->E (.ref e) { s with heap:=h' }):wpAny (model prog w) A (Builtin.SmallTypes.nextOf (.ref a)) Q E s:=by
 obtain ⟨u,gu,cu,du⟩:=id y
 obtain ⟨o2,g2,_,n2,d2⟩:=z
 unfold Builtin.SmallTypes.nextOf
 refine wpAny_bind (wpAny_callSpecial?_slot (name:=Str.ofString "__next__") y.typeIs F.slot_tuple_iterator_next (wpAny_call_entry F.slot_tuple_iterator_next y.typeIs F.entry_tuple_iterator_next ?_ (F.args_tuple_iterator_next_1 _)))
 show wpAny _ _ (field (.ref a) 0 >>= _) _ _ s
 refine wpAny_bind (wpAny_field gu du (x:=.ref l) rfl ?_)
 show wpAny _ _ (if (Value.ref l==Value.none)=true then _ else _) _ _ _;rw [if_neg (show ¬ ((Value.ref l==Value.none)=true) from nofun)]
 show wpAny _ _ (field (.ref a) 1 >>= _) _ _ s
 refine wpAny_bind (wpAny_field gu du (x:=.int k 0) rfl ?_)
 show wpAny _ _ (seqItems? (.ref l) >>= _) _ _ _;refine wpAny_bind (wpAny_seqItems g2 d2 ?_)
 simp only [Int.toNat_natCast,g]
 refine wpAny_bind (wpAny_rule (wpAny_bind (wpAny_setField gu du (by simp) ?_)))
 show wpAny _ _ (newExc (.type "StopIteration") [] >>= _) _ _ _;refine wpAny_bind ?_
 simp only [newExc,newTuple]
 refine wpAny_bind (wpAny_newObj_type ?_ (by size_fits));refine wpAny_bind (m:=firstArgMember _ _) (wpAny_of_eq (a:=Value.none) (by first | rfl | (simp only [firstArgMember];rfl)) ?_)
 refine wpAny_newObj_type ?_ (by size_fits);simp only [raiseNew]
 refine wpAny_bind (wpAny_handled ?_);first | rw [show A.in1.handled=none from hh] | rw [hh]
 exact wpAny_bind (wpAny_pure (wpAny_throw (q _ _ (((Heap.SameBut.update ..).extBut.push _).push _) ⟨_,Heap.get?_push_size _ rfl,rfl⟩)))
theorem next_item {t:Bool} {a l:Addr} {k:Nat} {xs:Array Value} {v:Value} {Q:Value->Shared->Prop} (y:SIt t s.heap a l k) (z:SSq t s.heap l xs) (g:xs[k]? = some v)
  (q:∀ h',SIt t h' a l (k+1)->Heap.SameBut a s.heap h'->Q v { s with heap:=h' }):wpAny (model prog w) A (Builtin.SmallTypes.nextOf (.ref a)) Q E s:=by
 cases t with
 | true=>exact Sw y z g q
 | false=>exact wpAny_nextOf_list_item y z g q
theorem next_end {t:Bool} {a l:Addr} {k:Nat} {xs:Array Value} {Q:Value->Shared->Prop} (hh:A.handled=none) (y:SIt t s.heap a l k) (z:SSq t s.heap l xs) (g:xs[k]? = none)
  (q:∀ h' e,Heap.ExtBut a s.heap h'->(∃ o,h'.get? e=some o∧o.cls = .type "StopIteration")->E (.ref e) { s with heap:=h' }):wpAny (model prog w) A (Builtin.SmallTypes.nextOf (.ref a)) Q E s:=by
 cases t with
 | true=>exact WF hh y z g q
 | false=>exact wpAny_nextOf_list_end hh y z g q
end
end L2
namespace L2
open PySem PySem.Spec PyProof.Rows
section
variable {prog:Program} {w:World} {A:Around} {E:Value->Shared->Prop} {s:Shared} {c U W a1 a2 l1 l2:Addr} {k1 k2:Nat} {xs ys:Array Value} {u v p1 p2:Value} {t1 t2:Bool}
theorem SN {Q:Value->Shared->Prop} (D:ZipApart c U W a1 a2 l1 l2) (pc:IsZip s.heap c U W .none) (pU:IsPair s.heap U (.ref a1) (.ref a2)) (pW:IsPair s.heap W p1 p2)
  (y1:SIt t1 s.heap a1 l1 k1) (y2:SIt t2 s.heap a2 l2 k2) (q1:SSq t1 s.heap l1 xs) (q2:SSq t2 s.heap l2 ys) (g1:xs[k1]? = some u) (g2:ys[k2]? = some v)
  (q:∀ h',IsZip h' c U W (rawInt s.heap.objs.size)->IsPair h' W u v->SIt t1 h' a1 l1 (k1+1)->SIt t2 h' a2 l2 (k2+1)->IsPair h' s.heap.objs.size u v->h'.objs.size=s.heap.objs.size+1 ->
   (∀ b o,b≠c->b≠W->b≠a1->b≠a2->s.heap.get? b=some o->h'.get? b=some o)->Q (.ref s.heap.objs.size) { s with heap:=h' }) :
  wpAny (model prog w) A (Builtin.«zip.__next__» ⟨[.ref c],[]⟩) (fun r s'=>∃ x,r = .done (.ret x)∧Q x s') E s:=by
 show wpAny _ _ (field (.ref c) 2 >>= _) _ _ _
 refine wpAny_bind (wpAny_field pc rfl (x:=.bool false) rfl ?_)
 show wpAny _ _ (field (.ref c) 3 >>= _) _ _ _
 refine wpAny_bind (wpAny_field pc rfl (x:=.ref U) rfl ?_)
 refine wpAny_bind (wpAny_seqItems pU rfl ?_)
 show wpAny _ _ (Builtin.SmallTypes.ownedTupleIsFree (.ref c) >>= _) _ _ _;refine wpAny_bind ?_
 unfold Builtin.SmallTypes.ownedTupleIsFree;refine wpAny_bind (wpAny_field pc rfl (x:=.none) rfl (wpAny_pure ?_))
 simp only [if_true]
 refine wpAny_bind (wpAny_rule ?_)
 refine wpAny_bind (wpAny_field pc rfl (x:=.ref W) rfl ?_)
 refine wpAny_bind (wpAny_setField_rec pc (by simp) fun m1 c1 b1=>?_)
 replace c1:IsZip m1 c U W .ellipsis:=c1
 refine wpAny_bind ?_
 simp only [List.forIn_cons,List.forIn_nil,List.zipIdx_cons,List.zipIdx_nil]
 refine wpAny_bind (wpAny_bind (wpAny_onRaise ?_));show wpAny _ _ (Builtin.SmallTypes.nextOf (.ref a1) >>= _) _ _ _
 refine wpAny_bind (next_item (y1.ext b1.extBut D.i1z) (q1.ext b1.extBut D.l1z) g1 fun m2 i2 b2=>wpAny_pure ?_)
 have w2:IsPair m2 W p1 p2:=b2.extBut _ _ D.TOi1 (b1.extBut _ _ D.TOz pW)
 refine wpAny_bind (wpAny_seqItems w2 rfl ?_)
 refine wpAny_bind (wpAny_updateSeq_pair w2 fun m3 w3 b3=>?_)
 replace w3:IsPair m3 W u p2:=w3
 refine wpAny_bind (wpAny_letGo (wpAny_pure ?_));refine wpAny_bind (wpAny_bind (wpAny_onRaise ?_))
 show wpAny _ _ (Builtin.SmallTypes.nextOf (.ref a2) >>= _) _ _ _
 refine wpAny_bind (next_item (((y2.ext b1.extBut D.i2z).ext b2.extBut D.i12.symm).ext b3.extBut D.TOi2.symm) (((q2.ext b1.extBut D.l2z).ext b2.extBut D.l2i1).ext b3.extBut D.l2TO) g2 fun m4 i4 b4=>wpAny_pure ?_)
 have w4:IsPair m4 W u p2:=b4.extBut _ _ D.TOi2 w3
 refine wpAny_bind (wpAny_seqItems w4 rfl ?_)
 refine wpAny_bind (wpAny_updateSeq_pair w4 fun m5 w5 b5=>?_)
 replace w5:IsPair m5 W u v:=w5
 refine wpAny_bind (wpAny_letGo (wpAny_pure (wpAny_pure ?_)));refine wpAny_bind (wpAny_seqItems w5 rfl ?_)
 refine wpAny_bind (wpAny_newTuple ?_)
 have sz:m5.objs.size=s.heap.objs.size:=by rw [b5.1,b4.1,b3.1,b2.1,b1.1]
 have c5:IsZip m5 c U W .ellipsis:=b5.extBut _ _ D.TOz.symm (b4.extBut _ _ D.i2z.symm (b3.extBut _ _ D.TOz.symm (b2.extBut _ _ D.i1z.symm c1)))
 have kp:∀ b o,b≠c->b≠W->b≠a1->b≠a2->s.heap.get? b=some o->m5.get? b=some o:=fun b o n1 n2 n3 n4 e=>
  b5.extBut _ _ n2 (b4.extBut _ _ n4 (b3.extBut _ _ n2 (b2.extBut _ _ n3 (b1.extBut _ _ n1 e))))
 have j1:SIt t1 m5 a1 l1 (k1+1):=((i2.ext b3.extBut D.TOi1.symm).ext b4.extBut D.i12).ext b5.extBut D.TOi1.symm
 have j2:SIt t2 m5 a2 l2 (k2+1):=i4.ext b5.extBut D.TOi2.symm
 have lc:c<m5.objs.size:=Heap.lt_size c5
 show wpAny _ _ (Builtin.SmallTypes.ownedTupleHandOut (.ref c) (.ref m5.objs.size) >>= _) _ _ _;refine wpAny_bind ?_
 unfold Builtin.SmallTypes.ownedTupleHandOut;have c6:IsZip (m5.push { cls:=.type "tuple",data:=.seq #[u,v] }) c U W .ellipsis:=Heap.get?_push_of_some _ c5
 refine wpAny_bind (wpAny_setField_rec c6 (by simp) fun m7 c7 b7=>?_)
 replace c7:IsZip m7 c U W (rawInt m5.objs.size):=c7
 refine wpAny_setField_rec c7 (by simp) fun m8 c8 b8=>?_
 replace c8:IsZip m8 c U W (rawInt m5.objs.size):=c8
 have up:∀ b o,b≠c->m5.get? b=some o->m8.get? b=some o:=fun b o n1 e=>b8.extBut _ _ n1 (b7.extBut _ _ n1 (Heap.get?_push_of_some _ e))
 have T8:IsPair m8 m5.objs.size u v:=b8.extBut _ _ (Nat.ne_of_gt lc) (b7.extBut _ _ (Nat.ne_of_gt lc) (Heap.get?_push_size _ rfl))
 have s8:m8.objs.size=m5.objs.size+1:=by rw [b8.1,b7.1,Heap.size_push]
 rw [sz] at c8 T8 s8
 refine wpAny_pure ⟨_,rfl,?_⟩
 show Q (.ref m5.objs.size) _
 rw [sz]
 exact q m8 c8 (up _ _ D.TOz w5) (j1.kept fun o e=>up _ o D.i1z e) (j2.kept fun o e=>up _ o D.i2z e) T8 s8 fun b o n1 n2 n3 n4 e=>up b o n1 (kp b o n1 n2 n3 n4 e)
theorem WT {Q:Fin->Shared->Prop} (hh:A.handled=none) (D:ZipApart c U W a1 a2 l1 l2) (pc:IsZip s.heap c U W .none) (pU:IsPair s.heap U (.ref a1) (.ref a2)) (pW:IsPair s.heap W p1 p2)
  (y1:SIt t1 s.heap a1 l1 k1) (y2:SIt t2 s.heap a2 l2 k2) (q1:SSq t1 s.heap l1 xs) (q2:SSq t2 s.heap l2 ys) (g:xs[k1]? = none∨ys[k2]? = none)
  (q:∀ h' e,(∀ b o,b≠c->b≠W->b≠a1->b≠a2->s.heap.get? b=some o->h'.get? b=some o)->(∃ o,h'.get? e=some o∧o.cls = .type "StopIteration")->E (.ref e) { s with heap:=h' }) :
  wpAny (model prog w) A (Builtin.«zip.__next__» ⟨[.ref c],[]⟩) Q E s:=by
 show wpAny _ _ (field (.ref c) 2 >>= _) _ _ _
 refine wpAny_bind (wpAny_field pc rfl (x:=.bool false) rfl ?_)
 show wpAny _ _ (field (.ref c) 3 >>= _) _ _ _
 refine wpAny_bind (wpAny_field pc rfl (x:=.ref U) rfl ?_)
 refine wpAny_bind (wpAny_seqItems pU rfl ?_)
 show wpAny _ _ (Builtin.SmallTypes.ownedTupleIsFree (.ref c) >>= _) _ _ _;refine wpAny_bind ?_
 unfold Builtin.SmallTypes.ownedTupleIsFree;refine wpAny_bind (wpAny_field pc rfl (x:=.none) rfl (wpAny_pure ?_))
 simp only [if_true]
 refine wpAny_bind (wpAny_rule ?_)
 refine wpAny_bind (wpAny_field pc rfl (x:=.ref W) rfl ?_)
 refine wpAny_bind (wpAny_setField_rec pc (by simp) fun m1 c1 b1=>?_)
 replace c1:IsZip m1 c U W .ellipsis:=c1
 refine wpAny_bind ?_
 simp only [List.forIn_cons,List.forIn_nil,List.zipIdx_cons,List.zipIdx_nil]
 refine wpAny_bind (wpAny_bind (wpAny_onRaise ?_));show wpAny _ _ (Builtin.SmallTypes.nextOf (.ref a1) >>= _) _ _ _
 cases g1:xs[k1]? with
 | none=>
  refine wpAny_bind (next_end hh (y1.ext b1.extBut D.i1z) (q1.ext b1.extBut D.l1z) g1 fun m2 e b2 he=>?_)
  obtain ⟨oe,ge,ce⟩:=he
  have c2:IsZip m2 c U W .ellipsis:=b2 _ _ D.i1z.symm c1
  have ne:e≠c:=fun z=>by subst z;rw [c2] at ge;cases ge;simp at ce
  exact wpAny_setField_rec c2 (by simp) fun m3 _ b3=>q m3 e (fun b o n1 _ n3 _ z=>b3.extBut _ _ n1 (b2 _ _ n3 (b1.extBut _ _ n1 z))) ⟨oe,b3.extBut _ _ ne ge,ce⟩
 | some u=>
  have g2:ys[k2]? = none:=g.elim (fun z=>by rw [g1] at z;cases z) id
  refine wpAny_bind (next_item (y1.ext b1.extBut D.i1z) (q1.ext b1.extBut D.l1z) g1 fun m2 i2 b2=>wpAny_pure ?_)
  have w2:IsPair m2 W p1 p2:=b2.extBut _ _ D.TOi1 (b1.extBut _ _ D.TOz pW)
  refine wpAny_bind (wpAny_seqItems w2 rfl ?_)
  refine wpAny_bind (wpAny_updateSeq_pair w2 fun m3 w3 b3=>?_)
  refine wpAny_bind (wpAny_letGo (wpAny_pure ?_));refine wpAny_bind (wpAny_bind (wpAny_onRaise ?_))
  show wpAny _ _ (Builtin.SmallTypes.nextOf (.ref a2) >>= _) _ _ _
  refine wpAny_bind (next_end hh (((y2.ext b1.extBut D.i2z).ext b2.extBut D.i12.symm).ext b3.extBut D.TOi2.symm) (((q2.ext b1.extBut D.l2z).ext b2.extBut D.l2i1).ext b3.extBut D.l2TO) g2 fun m4 e b4 he=>?_)
  obtain ⟨oe,ge,ce⟩:=he
  have c4:IsZip m4 c U W .ellipsis:=b4 _ _ D.i2z.symm (b3.extBut _ _ D.TOz.symm (b2.extBut _ _ D.i1z.symm c1))
  have ne:e≠c:=fun z=>by subst z;rw [c4] at ge;cases ge;simp at ce
  exact wpAny_setField_rec c4 (by simp) fun m5 _ b5=>q m5 e (fun b o n1 n2 n3 n4 z=>b5.extBut _ _ n1 (b4 _ _ n4 (b3.extBut _ _ n2 (b2.extBut _ _ n3 (b1.extBut _ _ n1 z))))) ⟨oe,b5.extBut _ _ ne ge,ce⟩
theorem QX {Q:Option Value->Shared->Prop} (D:ZipApart c U W a1 a2 l1 l2) (pc:IsZip s.heap c U W .none) (pU:IsPair s.heap U (.ref a1) (.ref a2)) (pW:IsPair s.heap W p1 p2)
  (y1:SIt t1 s.heap a1 l1 k1) (y2:SIt t2 s.heap a2 l2 k2) (q1:SSq t1 s.heap l1 xs) (q2:SSq t2 s.heap l2 ys) (g1:xs[k1]? = some u) (g2:ys[k2]? = some v)
  (q:∀ h',IsZip h' c U W (rawInt s.heap.objs.size)->IsPair h' W u v->SIt t1 h' a1 l1 (k1+1)->SIt t2 h' a2 l2 (k2+1)->IsPair h' s.heap.objs.size u v->h'.objs.size=s.heap.objs.size+1 ->
   (∀ b o,b≠c->b≠W->b≠a1->b≠a2->s.heap.get? b=some o->h'.get? b=some o)->Q (some (.ref s.heap.objs.size)) { s with heap:=h' }) :
  wpAny (model prog w) A (pyNext (.ref c)) Q E s:=by
 have T:s.TypeIs (.ref c) "zip":=⟨_,pc,rfl⟩
 unfold pyNext
 exact wpAny_bind (wpAny_attempt (wpAny_callSpecial?_slot (name:=Str.ofString "__next__") T F.slot_zip_next (wpAny_call_entry F.slot_zip_next T F.entry_zip_next
  (SN D pc pU pW y1 y2 q1 q2 g1 g2 fun h' z1 z2 z3 z4 z5 z6 z7=>wpAny_pure (q h' z1 z2 z3 z4 z5 z6 z7)) (F.args_zip_next_1 _))))
theorem Vr {Q:Option Value->Shared->Prop} (hh:A.handled=none) (D:ZipApart c U W a1 a2 l1 l2) (pc:IsZip s.heap c U W .none) (pU:IsPair s.heap U (.ref a1) (.ref a2)) (pW:IsPair s.heap W p1 p2)
  (y1:SIt t1 s.heap a1 l1 k1) (y2:SIt t2 s.heap a2 l2 k2) (q1:SSq t1 s.heap l1 xs) (q2:SSq t2 s.heap l2 ys) (g:xs[k1]? = none∨ys[k2]? = none)
  (q:∀ h',(∀ b o,b≠c->b≠W->b≠a1->b≠a2->s.heap.get? b=some o->h'.get? b=some o)->Q none { s with heap:=h' }):wpAny (model prog w) A (pyNext (.ref c)) Q E s:=by
 have T:s.TypeIs (.ref c) "zip":=⟨_,pc,rfl⟩
 unfold pyNext
 refine wpAny_bind (wpAny_attempt (wpAny_callSpecial?_slot (name:=Str.ofString "__next__") T F.slot_zip_next (wpAny_call_entry F.slot_zip_next T F.entry_zip_next (WT hh D pc pU pW y1 y2 q1 q2 g fun h' e hk he=>?_) (F.args_zip_next_1 _))))
 obtain ⟨oe,ge,ce⟩:=he
 exact wpAny_bind (wpAny_isInstance (T:= "StopIteration") (b:=true) ⟨oe,ge,ce⟩ isSubtype_stop (wpAny_pure (q _ hk)))
end
def zo1 (t1:Bool) (h:Heap) (l1:Addr):Heap:=h.push (itO t1 l1)
def zo2 (t1 t2:Bool) (h:Heap) (l1 l2:Addr):Heap:=(zo1 t1 h l1).push (itO t2 l2)
def zo3 (t1 t2:Bool) (h:Heap) (l1 l2:Addr):Heap:=(zo2 t1 t2 h l1 l2).push { cls:=.type "tuple",data:=.seq #[.ref h.objs.size,.ref (zo1 t1 h l1).objs.size] }
def zo4 (t1 t2:Bool) (h:Heap) (l1 l2:Addr):Heap:=(zo3 t1 t2 h l1 l2).push { cls:=.type "tuple",data:=.seq #[.none,.none] }
def zo5 (t1 t2:Bool) (h:Heap) (l1 l2:Addr):Heap:=(zo4 t1 t2 h l1 l2).push { cls:=.type "zip",data:=.fields #[.none,.bool false,.bool false,.ref (zo2 t1 t2 h l1 l2).objs.size,.ref (zo3 t1 t2 h l1 l2).objs.size] }
theorem WW (t1 t2:Bool) (l1 l2:Addr) (xs ys:Array Value):Meets (Builtin.«zip.__new__» ⟨[.type "zip",.ref l1,.ref l2],[]⟩) (fun _ R s=>SSq t1 s.heap l1 xs∧SSq t2 s.heap l2 ys∧R (.ok (.ret (.ref (zo4 t1 t2 s.heap l1 l2).objs.size))) { s with heap:=zo5 t1 t2 s.heap l1 l2 }):=
 .of_wp fun prog w A R s h=>by
  obtain ⟨hp,g,d,tk,os⟩:=s;obtain ⟨q1,q2,h⟩:=h
  have sb:=sub_zip
  have e1:SSq t1 (Shared.heap ⟨hp,g,d,tk,os⟩) l1 xs:=q1
  have e2:SSq t2 (Shared.heap ⟨hp.push (itO t1 l1),g,d,tk,os⟩) l2 ys:=by
   cases t2 with
   | true=>exact Heap.IsTuple.push q2 _
   | false=>exact Heap.IsList.push q2 _
  wp_walk using qO e1,qO e2
  exact ⟨_,rfl,h⟩
end L2
namespace L2
open PySem PySem.Spec PyProof.Rows
theorem PX {prog:Program} {w:World} {A:Around} {E:Value->Shared->Prop} {s:Shared} {t1 t2:Bool} {l1 l2:Addr} {xs ys:Array Value} {Q:Value->Shared->Prop} (q1:SSq t1 s.heap l1 xs) (q2:SSq t2 s.heap l2 ys)
  (q:∀ h',IsZip h' (s.heap.objs.size+4) (s.heap.objs.size+2) (s.heap.objs.size+3) .none->IsPair h' (s.heap.objs.size+2) (.ref s.heap.objs.size) (.ref (s.heap.objs.size+1))->IsPair h' (s.heap.objs.size+3) .none .none ->
   SIt t1 h' s.heap.objs.size l1 0->SIt t2 h' (s.heap.objs.size+1) l2 0->(∀ b o,s.heap.get? b=some o->h'.get? b=some o)->Q (.ref (s.heap.objs.size+4)) { s with heap:=h' }) :
  wpAny (model prog w) A (call (.type "zip") [.ref l1,.ref l2]) Q E s:=by
 refine callType_new F.called_zip (by decide) (F.typeCall_zip_2 _ _) (F.newCall_zip_2 _ _) (fun obj=>F.args_object_init_3 obj _ _) F.entry_zip_new (WW t1 t2 l1 l2 xs ys) ⟨q1,q2,?_⟩
 have n1:(zo1 t1 s.heap l1).objs.size=s.heap.objs.size+1:=Heap.size_push ..
 have n2:(zo2 t1 t2 s.heap l1 l2).objs.size=s.heap.objs.size+2:=(Heap.size_push ..).trans (by rw [n1])
 have n3:(zo3 t1 t2 s.heap l1 l2).objs.size=s.heap.objs.size+3:=(Heap.size_push ..).trans (by rw [n2])
 have n4:(zo4 t1 t2 s.heap l1 l2).objs.size=s.heap.objs.size+4:=(Heap.size_push ..).trans (by rw [n3])
 have f5:(zo5 t1 t2 s.heap l1 l2).get? (zo4 t1 t2 s.heap l1 l2).objs.size=some _:=Heap.get?_push_size _ rfl
 have f4:(zo5 t1 t2 s.heap l1 l2).get? (zo3 t1 t2 s.heap l1 l2).objs.size=some _:=Heap.get?_push_of_some _ (Heap.get?_push_size _ rfl)
 have f3:(zo5 t1 t2 s.heap l1 l2).get? (zo2 t1 t2 s.heap l1 l2).objs.size=some _:=Heap.get?_push_of_some _ (Heap.get?_push_of_some _ (Heap.get?_push_size _ rfl))
 have f2:(zo5 t1 t2 s.heap l1 l2).get? (zo1 t1 s.heap l1).objs.size=some (itO t2 l2):=Heap.get?_push_of_some _ (Heap.get?_push_of_some _ (Heap.get?_push_of_some _ (Heap.get?_push_size _ rfl)))
 have f1:(zo5 t1 t2 s.heap l1 l2).get? s.heap.objs.size=some (itO t1 l1):=Heap.get?_push_of_some _ (Heap.get?_push_of_some _ (Heap.get?_push_of_some _ (Heap.get?_push_of_some _ (Heap.get?_push_size _ rfl))))
 show _∧_
 rw [n2,n3,n4] at f5
 rw [n1,n2] at f3
 rw [n3] at f4
 rw [n1] at f2
 rw [n4]
 have i1:SIt t1 (zo5 t1 t2 s.heap l1 l2) s.heap.objs.size l1 0:=by cases t1 <;> exact ⟨_,f1,rfl,rfl⟩
 have i2:SIt t2 (zo5 t1 t2 s.heap l1 l2) (s.heap.objs.size+1) l2 0:=by cases t2 <;> exact ⟨_,f2,rfl,rfl⟩
 exact ⟨⟨_,f5,rfl⟩,q _ f5 f3 f4 i1 i2 fun b o z=>Heap.get?_push_of_some _ (Heap.get?_push_of_some _ (Heap.get?_push_of_some _ (Heap.get?_push_of_some _ (Heap.get?_push_of_some _ z))))⟩
def Sq (t:Bool) (K:PySem.W.Frag) (H:Hp) (a:Addr) (xs:List V):Prop:=cond t (SqT K H a xs) (SqL K H a xs)
theorem Inv.sq {X:Cx} {pins:List (Addr×Obj)} {σ : St} {H:Hp} {s:Shared} {t:Bool} {a:Addr} {xs:List V} (I:Inv X pins σ H s) (h:Sq t X.K H a xs):∃ its:List Value,Vals xs its∧SSq t s.heap a its.toArray:=by
 cases t with
 | true=>obtain ⟨its,r,p,_⟩:=I.tuple h;exact ⟨its,r,p⟩
 | false=>obtain ⟨its,r,p,_⟩:=I.list h;exact ⟨its,r,p.isList⟩
theorem Inv.sq_inj {X:Cx} {pins:List (Addr×Obj)} {σ : St} {H:Hp} {s:Shared} {t:Bool} {a:Addr} {xs ys:List V} (I:Inv X pins σ H s) (h:Sq t X.K H a xs) (h':Sq t X.K H a ys):xs=ys:=by
 cases t with
 | true=>exact I.tuple_inj h h'
 | false=>exact I.list_inj h h'
def Xc (K:PySem.W.Frag) (t1 t2:Bool) (a b:Addr):It:=
 ⟨fun i H=>∃ xs ys x y,Sq t1 K H a xs∧Sq t2 K H b ys∧xs[i]? = some x∧ys[i]? = some y,
  fun i H v H'=>∃ p x y,H p=none∧v = .ref p∧H'=upd H p (.tup [x,y])∧(∀ xs,Sq t1 K H a xs->xs[i]? = some x) ∧ ∀ ys,Sq t2 K H b ys->ys[i]? = some y,
  fun i H=>∃ xs ys,Sq t1 K H a xs∧Sq t2 K H b ys∧(xs.length<=i∨ys.length<=i)⟩
def Zw (t1 t2:Bool) (n l1 l2:Addr) (i:Nat) (h:Heap):Prop:=IsZip h (n+4) (n+2) (n+3) .none∧IsPair h (n+2) (.ref n) (.ref (n+1))∧(∃ a b,IsPair h (n+3) a b)∧SIt t1 h n l1 i∧SIt t2 h (n+1) l2 i∧l1<n∧l2<n
theorem JH {P:Program} {w:World} {K:PySem.W.Frag} {es:List Expr} {k:Nat} {pos:Pos} (t1 t2:Bool) (n l1 l2:Addr):Turn P w K (.Tuple es k pos) (Xc K t1 t2 l1 l2) (zFp n) (n+4) (Zw t1 t2 n l1 l2) where
 mem:=by simp [zFp]
 obj:=fun i h st b hb=>by
  obtain ⟨hz,hTI,⟨a,c,hTO⟩,h1,h2,_,_⟩:=st
  obtain ⟨o1,e1,c1,q1⟩:=h1.obj
  obtain ⟨o2,e2,c2,q2⟩:=h2.obj
  simp only [zFp,List.mem_cons,List.not_mem_nil,or_false] at hb
  rcases hb with rfl | rfl | rfl | rfl | rfl
  ·exact ⟨_,hz,fun v z=>nomatch z⟩
  ·exact ⟨_,hTI,fun v z=>nomatch z⟩
  ·exact ⟨_,hTO,fun v z=>nomatch z⟩
  ·exact ⟨_,e1,fun v z=>by rw [q1] at z;cases z⟩
  ·exact ⟨_,e2,fun v z=>by rw [q2] at z;cases z⟩
 keep:=fun i h h' st kk=>by
  obtain ⟨hz,hTI,⟨a,c,hTO⟩,h1,h2,n1,n2⟩:=st
  exact ⟨kk _ (by simp [zFp]) _ hz,kk _ (by simp [zFp]) _ hTI,⟨a,c,kk _ (by simp [zFp]) _ hTO⟩,h1.kept (kk _ (by simp [zFp])),h2.kept (kk _ (by simp [zFp])),n1,n2⟩
 item:=by
  intro X hP hw hK hc i pins s σ H E I hf st hg
  subst hP hw hK
  obtain ⟨xs,ys,x,y,hq1,hq2,hx,hy⟩:=hg
  obtain ⟨is1,rv1,p1⟩:=I.sq hq1
  obtain ⟨is2,rv2,p2⟩:=I.sq hq2
  obtain ⟨u1,hu1,ru1⟩:=rv1.get hx
  obtain ⟨u2,hu2,ru2⟩:=rv2.get hy
  obtain ⟨hz,hTI,⟨a,c,hTO⟩,h1,h2,n1,n2⟩:=id st
  have D:=zipApart_new n1 n2
  have nT:s.heap.objs.size ∉ zFp n:=fun z=>by
   obtain ⟨o,e,_⟩:=(show ∃ o,s.heap.get? s.heap.objs.size=some o∧True from by
    simp only [zFp,List.mem_cons,List.not_mem_nil,or_false] at z
    obtain ⟨o1,e1,_⟩:=h1.obj
    obtain ⟨o2,e2,_⟩:=h2.obj
    rcases z with z | z | z | z | z <;> rw [z]
    ·exact ⟨_,hz,trivial⟩
    ·exact ⟨_,hTI,trivial⟩
    ·exact ⟨_,hTO,trivial⟩
    ·exact ⟨_,e1,trivial⟩
    ·exact ⟨_,e2,trivial⟩)
   exact Nat.lt_irrefl _ (Heap.lt_size e)
  refine QX D hz hTI hTO h1 h2 p1 p2 (by simpa using hu1) (by simpa using hu2) fun h' z1 z2 z3 z4 z5 z6 z7=>?_
  refine ⟨_,rfl,wpAny_letOwnedTupleGo_zip z1 fun h'' y1 sb=>?_⟩
  have kk:∀ b o,b ∉ zFp n->s.heap.get? b=some o->h''.get? b=some o:=fun b o hb e=>by
   simp only [zFp,List.mem_cons,List.not_mem_nil,or_false,not_or] at hb
   exact sb.extBut b o hb.1 (z7 b o hb.1 hb.2.2.1 hb.2.2.2.1 hb.2.2.2.2 e)
  have hT'':IsPair h'' s.heap.objs.size u1 u2:=sb.extBut _ _ (fun z=>nT (by rw [z];simp [zFp])) z5
  have hTI'':IsPair h'' (n+2) (.ref n) (.ref (n+1)):=sb.extBut _ _ (by simp) (z7 _ _ (by simp) (by simp) (by simp) (by simp) hTI)
  have new:fK X.prog X.w (upd H s.heap.objs.size (.tup [x,y])) h'' s.heap.objs.size (.tup [x,y]):=
   ⟨by show 2<=sizeLine;decide,[u1,u2],.cons ru1 (.cons ru2 .nil),_,hT'',rfl,_,rfl⟩
  have hn:=I.hok.fresh (Nat.le_refl s.heap.objs.size)
  refine ⟨.ref s.heap.objs.size,upd H s.heap.objs.size (.tup [x,y]),I.turnedTup (t':=s.toks) hf kk (Nat.le_refl _) new,rfl,⟨_,x,y,hn,rfl,rfl,fun zs hz'=>?_,fun zs hz'=>?_⟩,⟨y1,hTI'',⟨_,_,sb.extBut _ _ (by simp) z2⟩,z3.ext sb.extBut (by simp),z4.ext sb.extBut (by simp),n1,n2⟩,fun b hb=>?_⟩
  ·rw [I.sq_inj hz' hq1];exact hx
  ·rw [I.sq_inj hz' hq2];exact hy
  ·rw [bJ (fun z=>nT (by rw [← z];exact hb))];exact (hf b hb).1
 done:=by
  intro X hP hw hK hc i pins s σ H E I hf st hg
  subst hP hw hK
  obtain ⟨xs,ys,hq1,hq2,hx⟩:=hg
  obtain ⟨is1,rv1,p1⟩:=I.sq hq1
  obtain ⟨is2,rv2,p2⟩:=I.sq hq2
  obtain ⟨hz,hTI,⟨a,c,hTO⟩,h1,h2,n1,n2⟩:=id st
  have l1:=rv1.length
  have l2:=rv2.length
  refine Vr (I.ok.hd hc) (zipApart_new n1 n2) hz hTI hTO h1 h2 p1 p2 (hx.elim (fun z=>.inl (by simp;omega)) fun z=>.inr (by simp;omega)) fun h' kk=>⟨rfl,I.turnedAll (t':=s.toks) hf fun b o hb e=>?_⟩
  simp only [zFp,List.mem_cons,List.not_mem_nil,or_false,not_or] at hb
  exact kk b o hb.1 hb.2.2.1 hb.2.2.2.1 hb.2.2.2.2 e
 self:=fun A i s Q E st h=>wpAny_pyIter_zip st.1 h
def Xx (K:PySem.W.Frag) (ta:TA):TI:=fun σ H R=>ta σ H fun vs H1=>∃ t1 t2 a b,vs=[.ref a,.ref b]∧(∃ xs,Sq t1 K H1 a xs)∧(∃ ys,Sq t2 K H1 b ys)∧R (Xc K t1 t2 a b) H1
theorem Rr {X:Cx} (K:PySem.W.Frag) (eK:X.K=K) {es:List Expr} {k:Nat} {tpos:Pos} {a b:Expr} {ta:TA} {p pos:Pos} (hg:Gl X "zip") (hm:X.mg "zip" = none) (ha:PA X [a,b] ta) (hs:starEach [a,b] X.env=[(false,eval a X.env),(false,eval b X.env)]:=by rfl) (hs2:starEach [b] X.env=[(false,eval b X.env)]:=by rfl) :
  PI X (.Tuple es k tpos) (.Call (.Name "zip" p) [a,b] [] pos) (Xx K ta):=by
 subst eK
 intro pins s σ H R I h
 refine Call_ (jx I hg hm boot_zip (PyProof.Rows.callWith_type1 (thn (ha pos pins s σ H _ I h) fun us s1 ⟨vs,H1,I1,r1,q1⟩=>?_) (by rw [hs,hs2]) (by rw [hs2];rfl)))
 obtain ⟨t1,t2,l1,l2,rfl,⟨xs,hx⟩,⟨ys,hy⟩,q⟩:=q1
 obtain ⟨u1,u2,rfl,ru1,ru2⟩:=vals2 r1
 cases (show u1=Value.ref l1 from ru1)
 cases (show u2=Value.ref l2 from ru2)
 obtain ⟨is1,rv1,p1⟩:=I1.sq hx
 obtain ⟨is2,rv2,p2⟩:=I1.sq hy
 refine PX p1 p2 fun h' z1 z2 z3 z4 z5 kk=>?_
 have I2:Inv X pins σ H1 { s1 with heap:=h' }:=I1.kept (t':=s1.toks) kk
 have a1:l1<s1.heap.objs.size:=by obtain ⟨_,e,_⟩:=p1.obj;exact Heap.lt_size e
 have a2:l2<s1.heap.objs.size:=by obtain ⟨_,e,_⟩:=p2.obj;exact Heap.lt_size e
 refine wpAny_pyIter_zip z1 ⟨_,zFp s1.heap.objs.size,_,_,H1,rfl,I2,JH t1 t2 s1.heap.objs.size l1 l2,⟨z1,z2,⟨_,_,z3⟩,z4,z5,a1,a2⟩,fun b hb=>?_,q⟩
 have hb':s1.heap.objs.size<=b:=by
  simp only [zFp,List.mem_cons,List.not_mem_nil,or_false] at hb
  rcases hb with rfl | rfl | rfl | rfl | rfl <;> first | exact Nat.le_refl _ | exact Nat.le_add_right _ _
 exact I1.fpOk hb' (I1.hok.fresh hb')
end L2
namespace L2
open PySem PySem.Spec PyProof.Rows
def D.lt:D->Option (List D)
 | .lst _ xs=>some xs
 | .tup xs=>some xs
 | _=>none
theorem srcOf {K:PySem.W.Frag} {F F':Addr->Prop} {H:Hp} {v:V} {d:D} {L:List Addr} {xs:List D} (r:Rp K F H v d L) (e:d.lt=some xs) (hF:∀ b,F b->F' b) (hL:∀ b∈L,F' b) :
  ∃ t a vs,v = .ref a∧Sq t K H a vs∧Rps K F' H vs (D.fzs xs) [] ∧ ∀ F2 H2,Keeps F' H F2 H2->Sq t K H2 a vs:=by
 cases d with
 | lst o ds=>
  cases e
  obtain ⟨a,vs,N,rfl,ha,ra,hN⟩:=r.lst_at
  have hFa:F' a:=by
   cases r with
   | frz _ f _=>exact hF a f
   | own _ _=>exact hL a List.mem_cons_self
  exact ⟨false,a,vs,rfl,.of ha,ra.freeze hF fun b hb=>hL b (hN b hb),fun F2 H2 kp=>.of (kp.2 a _ ha (.inl hFa))⟩
 | tup ds=>
  cases e
  obtain ⟨a,vs,rfl,ha,ra⟩:=r.tup_at
  exact ⟨true,a,vs,rfl,ha,ra.freeze hF hL,fun F2 H2 kp=>ha.keep fun o e h=>kp.2 a o e (.inr h)⟩
 | _=>cases e
def Cr (s u:bU):qd:=fun ρ Q=>eQ [.val s,.val u] ρ fun as ρ2=>∃ d xs e ys,as=[.val d,.val e]∧d.lt=some xs∧e.lt=some ys∧xs.length<=sizeLine∧Q (mL (D.fzs xs) (D.fzs ys)) ρ2
theorem RV {X:Cx} {es:List Expr} {k:Nat} {tpos:Pos} {a b:Expr} {s u:bU} {p pos:Pos} (hg:Gl X "zip") (hm:X.mg "zip" = none) (ha:SE X a s) (hb:SE X b u)
  (hs:starEach [a,b] X.env=[(false,eval a X.env),(false,eval b X.env)]:=by rfl) (hs2:starEach [b] X.env=[(false,eval b X.env)]:=by rfl) :
  SI X (.Tuple es k tpos) (.Call (.Name "zip" p) [a,b] [] pos) (Cr s u):=
 (Rr X.K rfl hg hm (aj (o:=.val s) ha (aj (o:=.val u) hb ao hs2) (by rw [hs,hs2])) hs hs2).wk fun σ H Q ⟨F,ρ,Ls,R,Qd,w,q,k⟩=>⟨F,ρ,Ls,R,_,w,q,fun vs H1 as ρ1 F1 Ls1 La r1 w1 s1 ⟨d,xs,e',ys,e,ed,ee,hz,q1⟩=>by
  subst e
  cases r1 with
  | @val v1 _ _ _ L M r1 rs=>cases rs with
   | @val v2 _ _ _ L' M' r2 rs=>cases rs with
    | nil=>
     have w2:=w1.give
     have s2:=s1.trans (Step.give (M:=L++(L'++[])))
     obtain ⟨t1,a,xs',rfl,ha,ra',ka⟩:=srcOf (F':=fun z=>F1 z∨z∈L++(L'++[])) r1 ed (fun _ h=>.inl h) fun c hc=>.inr (List.mem_append_left _ hc)
     obtain ⟨t2,b,ys',rfl,hb,rb',kb⟩:=srcOf (F':=fun z=>F1 z∨z∈L++(L'++[])) r2 ee (fun _ h=>.inl h) fun c hc=>.inr (List.mem_append_right _ (List.mem_append_left _ hc))
     refine ⟨t1,t2,a,b,rfl,⟨_,ha⟩,⟨_,hb⟩,k _ H1 _ ρ1 _ Ls1 w2 s2 ⟨?_,?_,?_,?_⟩ q1⟩
     ·intro i F2 H2 kp hi
      obtain ⟨d,e⟩:=(show ∃ d,(mL (D.fzs xs) (D.fzs ys))[i]? = some d from ⟨_,List.getElem?_eq_getElem hi⟩)
      obtain ⟨x,y,h1,h2,_⟩:=rP e
      obtain ⟨v1,_,g1,_⟩:=ra'.get h1
      obtain ⟨v2,_,g2,_⟩:=rb'.get h2
      exact ⟨_,_,_,_,ka F2 H2 kp,kb F2 H2 kp,g1,g2⟩
     ·intro i F2 H2 x H3 d kp e y
      obtain ⟨x1,y1,h1,h2,rfl⟩:=rP e
      obtain ⟨v1,M1,g1,r1',sl1⟩:=ra'.get h1
      obtain ⟨v2,M2,g2,r2',sl2⟩:=rb'.get h2
      obtain ⟨p,x',y',hn,rfl,rfl,e1,e2⟩:=y
      have z1:=e1 _ (ka F2 H2 kp)
      have z2:=e2 _ (kb F2 H2 kp)
      rw [g1] at z1;rw [g2] at z2
      cases z1;cases z2
      cases List.sublist_nil.mp sl1;cases List.sublist_nil.mp sl2
      refine ⟨.tup cW (.cons (L:=[]) (M:=[]) ((r1'.keeps kp).laid hn) (.cons (L:=[]) (M:=[]) ((r2'.keeps kp).laid hn) .nil)),.inr ⟨p,_,hn,rfl⟩⟩
     ·intro F2 H2 kp
      refine ⟨_,_,ka F2 H2 kp,kb F2 H2 kp,?_⟩
      rw [ra'.length,rb'.length]
      simp only [mL,List.length_map,List.length_zip]
      omega
     ·simp only [mL,List.length_map,List.length_zip,D.fzs_eq]
      omega⟩
end L2
namespace L2
open PySem PySem.Spec PyProof.Rows
theorem Qn (ρ : En) (QI:List D->En->Prop) (s u:bU):Cr s u ρ QI=s ρ fun d ρ1=>u ρ1 fun e ρ2=>aX d.lt fun xs=>aX e.lt fun ys=>gn (xs.length<=sizeLine) (QI (mL (D.fzs xs) (D.fzs ys)) ρ2):=by
 unfold Cr
 simp only [fQ,jP]
 congr 1
 funext d ρ1
 congr 1
 funext e ρ2
 apply propext
 simp only [aX,gn]
 constructor
 ·rintro ⟨d',xs,e',ys,h,h1,h2,h3,h4⟩
  cases h
  exact ⟨xs,h1,ys,h2,h3,h4⟩
 ·rintro ⟨xs,h1,ys,h2,h3,h4⟩
  exact ⟨d,xs,e,ys,rfl,h1,h2,h3,h4⟩
end L2
namespace HT
open PySem PySem.Spec PyProof.Rows L2
section
variable {prog:Program} {w:World} {A:Around} {E:Value->Shared->Prop} {s:Shared}
theorem qL {t sl:Addr} {items:Array Value} {vl vu:Value} {lo hi:Option Int} {Q:Value->Shared->Prop} (ht:IsTup s.heap t items) (hs:s.heap.IsSliceOf sl vl vu .none) (pl:IsPart vl lo) (pu:IsPart vu hi)
  (hw:sIx items.size 0 lo=0∧sIx items.size items.size hi=items.size) (h:Q (.ref t) s):wpAny (model prog w) A (getItem (.ref t) (.ref sl)) Q E s:=by
 obtain ⟨os,hos,hcs,hds⟩:=id hs
 have hTs:s.TypeIs (.ref sl) "slice":=⟨os,hos,hcs⟩
 unfold getItem
 try with_reducible refine wpAny_holding ?_
 first | refine wpAny_bind (wpAny_pure ?_) | skip
 refine wpAny_bind (wpAny_sequenceKey ht.typeIs (by decide) ?_)
 refine wpAny_bind (wpAny_callSpecial?_slot (name:=Str.ofString "__getitem__") ht.typeIs PyProof.Rows.slot_tuple_getitem
  (wpAny_call_entry PyProof.Rows.slot_tuple_getitem ht.typeIs entry_tuple_getitem ?_ (args_tuple_getitem _ _)))
 show wpAny _ _ (Builtin.Tuple.tupleItemsOf (.ref t) >>= _) _ _ s
 refine wpAny_bind (tupleItemsOf_ ht ?_)
 refine wpAny_bind (wpAny_typeOf hTs ?_)
 rw [if_pos (by decide)]
 refine wpAny_bind (mH hs pl pu ?_)
 have hyes:(((sIx items.size 0 lo:Nat):Int)==0&&(1:Int)==1&&(sIx items.size items.size hi - sIx items.size 0 lo)==items.size)=true:=by
  rw [hw.1,hw.2];simp
 show wpAny _ _ (if (((sIx items.size 0 lo:Nat):Int)==0&&(1:Int)==1&&(sIx items.size items.size hi - sIx items.size 0 lo)==items.size)=true then _ else _) _ _ s
 rw [if_pos hyes]
 have hty:wpAny (model prog w) A.in1 (Builtin.Tuple.tupleIsExact (.ref t)) (fun b s'=>b=true∧s'=s) E s:=by
  unfold Builtin.Tuple.tupleIsExact
  exact wpAny_bind (wpAny_typeOf ht.typeIs (wpAny_pure ⟨rfl,rfl⟩))
 refine wpAny_bind (thn hty fun b s' ⟨e1,e2⟩=>?_)
 subst e1;subst e2
 rw [if_pos rfl]
 exact wpAny_bind (wpAny_rule (wpAny_pure ⟨_,rfl,wpAny_pure h⟩))
end
end HT
namespace L2
open PySem PySem.Spec PyProof.Rows
def Yn (K:PySem.W.Frag):V->Option Int->Option Int->Hp->VK->Prop:=fun x lo hi H Q=>∃ a xs,x = .ref a∧SqT K H a xs∧(HT.sIx xs.length 0 lo=0∧HT.sIx xs.length xs.length hi=xs.length)∧Q (.ref a) H
theorem Oi {X:Cx}:SlR X (Yn X.K):=by
 intro pins s σ H x v vl vu lo hi sl Q I rx hs pl pu h
 obtain ⟨a,xs,rfl,hx,hw,q⟩:=h
 cases rx
 obtain ⟨its,r,ht,hz⟩:=I.tuple hx
 have hlen:its.toArray.size=xs.length:=by rw [List.size_toArray];exact r.length.symm
 refine ⟨"tuple",_,PyProof.Rows.slot_tuple_getitem.lookup,ht.typeIs,?_⟩
 exact HT.qL ht hs pl pu (by rw [hlen];exact hw) ⟨.ref a,H,I,rfl,q⟩
def RC (K:PySem.W.Frag):V->Option Int->Option Int->Hp->VK->Prop:=fun x lo hi H Q=>wU K x lo hi H Q∨Yn K x lo hi H Q
theorem sl3 {X:Cx}:SlR X (RC X.K):=Fz.or Oi
def qH:D->Option Int->Option Int->Option D
 | .lst _ ds,lo,hi=>if D.shs ds=true then some (.lst true (cutD ds lo hi)) else none
 | .tup ds,lo,hi=>if D.shs ds=true then some (.tup (cutD ds lo hi)) else none
 | _,_,_=>none
theorem BP {K:PySem.W.Frag} {F:Addr->Prop} {H:Hp} {x:V} {d f:D} {L:List Addr} {lo hi:Option Int} {Q:VK} (r:Rp K F H x d L) (e:qH d lo hi=some f) (q:∀ v H' Lf,Out K F H f v H' Lf->Q v H'):RC K x lo hi H Q:=by
 cases d with
 | lst o ds=>exact .inl (uz r (show dSl (.lst o ds) lo hi=some f from e) q)
 | tup ds=>
  unfold qH at e
  dsimp only at e
  split at e
  ·rename_i hs
   by_cases hc:HT.sIx ds.length 0 lo=0∧HT.sIx ds.length ds.length hi=ds.length
   ·cases e
    obtain ⟨a,vs,rfl,ha,ra⟩:=r.tup_in
    have hL:=ra.sh_nil hs
    subst hL
    refine .inr ⟨a,vs,rfl,.of ha,by rw [ra.length];exact hc,?_⟩
    have ec:cutD ds lo hi=ds:=by
     unfold cutD
     rw [hc.1,hc.2,List.drop_zero,Nat.sub_zero,List.take_length]
    rw [ec] at q
    exact q _ _ _ (.same (.tup ha ra))
   ·refine .inl (uz r ?_ q)
    show (if (D.shs ds && !decide (HT.sIx ds.length 0 lo=0∧HT.sIx ds.length ds.length hi=ds.length))=true then some (D.tup (cutD ds lo hi)) else none)=some f
    rw [if_pos (by rw [hs,decide_eq_false hc];rfl)]
    exact e
  ·cases e
 | _=>cases e
def dX (o lo:Opd):bU:=sDo (fun ds=>match ds with | [d,.int l]=>qH d (some l) none | _=>none) [o,lo]
def iQ (o hi:Opd):bU:=sDo (fun ds=>match ds with | [d,.int h]=>qH d none (some h) | _=>none) [o,hi]
section
variable {X:Cx} {e idx:Expr} {o oi:Opd} {pos p2:Pos}
theorem jl (he:SO X e o) (hi:SO X idx oi):SE X (.Subscript e (.Slice (some idx) none none p2) pos) (dX o oi):=
 (rn sl3 he (uJ hi) uI).wk fun σ H Q h=>by
  have t:=jf (K:=X.K) (r:=fun vs H Q=>∃ x l,vs=[x,.int l]∧RC X.K x (some l) none H Q) (fun F H vs ds f Q r e q=>by
   split at e
   ·obtain ⟨x,y,L,M,rfl,r1,r2⟩:=r.two
    cases r2.isInt
    exact ⟨x,_,rfl,BP r1 e q⟩
   ·cases e) h
  refine ie (fun x H1 t1=>?_) (dM t)
  refine ie (fun y H2 t2=>?_) (dM t1)
  obtain ⟨F,ρ,Ls,R,Qd,w,q,k⟩:=t2
  obtain ⟨x',l,e,q⟩:=k [] H2 [] ρ F Ls [] .nil w Step.refl q
  cases e
  exact ⟨l,rfl,q⟩
theorem pJ (he:SO X e o) (hi:SO X idx oi):SE X (.Subscript e (.Slice none (some idx) none p2) pos) (iQ o oi):=
 (rn sl3 he uI (uJ hi)).wk fun σ H Q h=>by
  have t:=jf (K:=X.K) (r:=fun vs H Q=>∃ x l,vs=[x,.int l]∧RC X.K x none (some l) H Q) (fun F H vs ds f Q r e q=>by
   split at e
   ·obtain ⟨x,y,L,M,rfl,r1,r2⟩:=r.two
    cases r2.isInt
    exact ⟨x,_,rfl,BP r1 e q⟩
   ·cases e) h
  refine ie (fun x H1 t1=>?_) (dM t)
  refine ie (fun y H2 t2=>?_) (dM t1)
  obtain ⟨F,ρ,Ls,R,Qd,w,q,k⟩:=t2
  obtain ⟨x',l,e,q⟩:=k [] H2 [] ρ F Ls [] .nil w Step.refl q
  cases e
  exact ⟨l,rfl,q⟩
end
end L2
namespace Z
open PySem L2
def qu:dg:=fnS 2 0 false
 (cT (aV 2 dm [.val (sDo cI [.val (sDo dH [.val (aW 0 (.val (sC (.int 0)))),.val (aW 1 (.val (sC (.int 1))))]),.val (sDo dH [.val (aW 1 (.val (sC (.int 0)))),.val (aW 0 (.val (sC (.int 1))))])]),.val (sDo dH [.val (aW 0 (.val (sC (.int 1)))),.val (aW 1 (.val (sC (.int 1))))])]))
def gO:dg:=fnS 1 2 false
 (aR (sIf (kI (ph (.val (aV 3 mC [.nam 0,.val (sC (.int 2)),.val (sC (.int 2))]))))
 (cT (sC (.bl false)))
 (eO))
 (aR (Jv (gT [gN 1,gN 2]) (cC 0))
 (aR (sIf (Du (kI (ph (.val (aV 1 cJ [.nam 1])))) (kI (ph (.val (aV 1 cJ [.nam 2])))))
 (cT (sC (.bl false)))
 (eO))
 (cT (wX (sDo dGe [.nam 2,.val (sC (.int 1))]) (sDo dEq [.val (aV 2 dU [.nam 1,.nam 2]),.val (sC (.int 1))]))))))
def eU:dg:=fnS 2 2 false
 (aR (sIf (Du (kI (ph (.val (sDo oh [.nam 1,.val (sC (.ty "list"))])))) (tB' (sDo dNe [.val (sDo lL [.nam 1]),.val (aW 0 (.val (sC (.int 0))))])))
 (lQ)
 (eO))
 (aR (bK 2 (gH [.val (sC (.int 0)),.val (sC (.int 1))]))
 (aR (il (gq (cC 1)) (gN 3)
 (aR (sIf (kI (ph (.val (aV 1 gO [.nam 3]))))
 (lQ)
 (eO))
 (bK 2 (aV 2 qu [.nam 2,.nam 3]))))
 (sIf (tB' (sDo dNe [.nam 2,.val (gH [.val (sC (.int 0)),.val (sC (.int 1))])]))
 (lQ)
 (eO)))))
def eV:dg:=fnS 1 5 false
 (aR (bK 1 (cO (cZ (.val (aW 0 (.val (sC (.int 0)))))) 1 [0] (gN 0) (fu) (cO (cZ (.val (aW 1 (.val (sC (.int 0)))))) 1 [] (gN 0) (fu) (sC (.int 0)))))
 (aR (il (gq (aW 0 (.val (sC (.int 1))))) (gT [gN 2,gN 3,gN 4,gN 5])
 (aR (jU (fun i j=>i+j) 1 2 2 4)
 (aR (jU (fun i j=>i+j) 1 3 3 4)
 (aR (jU (fun i j=>i - j) 1 2 3 4)
 (jU (fun i j=>i - j) 1 3 2 4)))))
 (nU 1)))
def mz:dg:=fnS 2 1 false
 (aR (iM (aV 2 eU [.nam 0,.nam 1]))
 (aR (bK 2 (cO (gq (nC (.val (sFz (aV 1 eV [.nam 0]))) (.val (sC (.int 1))))) 1 [] (gN 0) (fu) (cO (gq (nC (.nam 0) (.val (sC (.int 1))))) 1 [] (gN 0) (fu) (aV 2 dm [.nam 0,.val (sC (.int 1))]))))
 (cT (sDo cI [.val (fH [.val (gH [.val (sC (.int 0)),.val (sC (.int 1))])]),.val (aV 2 oU [.nam 2,.val (nC (.nam 1) (.val (sC (.int 1))))])]))))
def dq:dg:=fnS 2 1 false
 (aR (bK 2 (aV 2 mz [.nam 0,.nam 1]))
 (cT (cO (gq (aW 0 (.val (sC (.int 1))))) 4 [2] (gT [gN 0,gN 1,gN 2,gN 3]) (fu) (aV 2 nF [.val (gH [.val (cC 2),.val (sC (.int 1))]),.val (aV 2 jF [.val (aW 4 (.nam 0)),.val (aW 4 (.nam 1))])]))))
end Z
namespace Z
open PySem L2 TM
theorem Hz {m n:Nat} {p q:Rat} (hp:Bq m p) (hq:Bq n q) (l:m+n<=134217728) {Q:D->Option D->Prop} (h:Q (fr (p+q)) none):qu [fr p,fr q] Q:=by
 dsimp? only [qu,mX,lN,aZ,bw,cb hp.1 hq.2 l,cb hq.1 hp.2 (by omega),cb hp.2 hq.2 l]
 refine jq (lC p q) ?_
 rw [zR]
 exact h
theorem Ut (q:Rat):Int.gcd q.num (q.den:Int)=1:=by
 have:=q.reduced
 rw [Int.gcd_eq_natAbs_gcd_natAbs];simpa using this
theorem vM {q:Rat} {Q:D->Option D->Prop} (h:Q (.bl true) none):gO [fr q] Q:=by
 have hd:=q.den_nz
 dsimp? only [gO,fr]
 refine Mh (by simp) (by simp) ?_
 dsimp? only
 refine oG ?_
 dsimp? only
 refine oG ?_
 dsimp? only
 refine lA (fun hc=>?_) fun hc=>absurd (show (1:Int)<=(q.den:Int) by omega) hc
 dsimp? only
 refine lq ?_
 (try dsimp? only)
 rw [Ut]
 exact h
theorem UJ (o:Bool) (ds:List D):oh [.lst o ds,.ty "list"]=some (.bl true):=rfl
theorem bq0:Bq 1 0:=⟨by unfold Bd;decide,by unfold Bd;decide⟩
theorem pX {m n:Nat} {ls:List Ln} {ps:List Rat} (hl:ps.length=n) (hn:n<=4) (hb:∀ p∈ps,Bq m p) (hm:m<=1000000) (hz:cj (fun i=>ps.getD i 0) n=0) {Q:D->Option D->Prop} (h:Q .non none):eU [fD n ls,.lst false (ps.map fr)] Q:=by
 have hne:(!((n:Int)==(n:Int)))=false:=by simp
 dsimp? only [eU,UJ,List.length_map,hl,iJ,hne,aB,aF,aG,aK,aC,au,aq,aZ,bw,aD,aO,aN,aP,az,Int.zero_add]
 refine bC (by omega) ?_
 (try dsimp? only)
 refine cR (fun k ρ => ∃ x,ρ = [some (fD n ls),some (.lst false (ps.map fr)),some (fr (cj (fun i=>ps.getD i 0) k)),x]∧Bq (k*(m+1)+1) (cj (fun i=>ps.getD i 0) k)) 0 ⟨_,rfl,by rw [Nat.zero_mul];exact bq0⟩ ?_ ?_
 ·rintro k d ρ hd ⟨x,rfl,hB⟩ P hP
  rw [Nat.zero_add] at hB hP ⊢
  rw [List.getElem?_map] at hd
  obtain ⟨p,hp,rfl⟩:=Option.map_eq_some_iff.mp hd
  have hk:=(List.getElem?_eq_some_iff.mp hp).1
  have hk4:k*(m+1)<=4*(m+1):=Nat.mul_le_mul_right _ (by omega)
  have hpb:=hb p (List.mem_of_getElem? hp)
  have eg:ps.getD k 0=p:=by rw [List.getD_eq_getElem?_getD,hp];rfl
  dsimp? only [aB,aF,aG,aK,aC,au,aq,aZ,bw,aD,aO,aN,aP,az,Int.zero_add]
  refine vM ?_
  dsimp? only [aB,aF,aG,aK,aC,au,aq,aZ,bw,aD,aO,aN,aP,az,Int.zero_add]
  refine Hz hB hpb (by omega) ?_
  dsimp? only [aB,aF,aG,aK,aC,au,aq,aZ,bw,aD,aO,aN,aP,az,Int.zero_add]
  have e2:cj (fun i=>ps.getD i 0) k+p=cj (fun i=>ps.getD i 0) (k+1):=by rw [← eg];rfl
  rw [e2]
  refine hP _ ⟨_,rfl,?_⟩
  rw [← e2]
  have:=Ue hB hpb
  rw [Nat.add_mul,Nat.one_mul]
  exact this.mono (by omega)
 rintro ρ ⟨x,rfl,hB⟩
 rw [Nat.zero_add,List.length_map,hl,hz]
 dsimp? only [nP,Ke]
 exact h
def tabI (f:Nat->Nat->Int) (n:Nat):List D:=(List.range n).map fun i=>D.lst true ((List.range n).map fun j=>D.int (f i j))
theorem xN {f:Nat->Nat->Int} {n i:Nat} (h:i<n):(tabI f n)[i]? = some (D.lst true ((List.range n).map fun j=>D.int (f i j))):=by
 unfold tabI;rw [List.getElem?_map,List.getElem?_range h];rfl
theorem Dg {f:Nat->Int} {n i:Nat} (h:i<n):((List.range n).map fun j=>D.int (f j))[i]? = some (D.int (f i)):=by
 rw [List.getElem?_map,List.getElem?_range h];rfl
theorem Dh {f:Nat->Int} {n b:Nat} {v:Int}:((List.range n).map fun j=>D.int (f j)).set b (.int v)=(List.range n).map fun j=>D.int (if j=b then v else f j):=by
 apply List.ext_getElem?
 intro i
 rw [List.getElem?_set,List.getElem?_map,List.getElem?_map]
 by_cases hi:i<n
 ·rw [List.getElem?_range hi]
  by_cases c:b=i
  ·subst c;simp [hi]
  ·rw [if_neg c];simp [Ne.symm c]
 ·rw [List.getElem?_eq_none (by simpa using hi)]
  by_cases c:b=i
  ·subst c;simp [hi]
  ·rw [if_neg c];rfl
theorem OD {f:Nat->Nat->Int} {n a b:Nat} {v:Int} (ha:a<n):(tabI f n).set a (.lst true (((List.range n).map fun j=>D.int (f a j)).set b (.int v)))=tabI (fun x y=>if x=a∧y=b then v else f x y) n:=by
 rw [Dh]
 apply List.ext_getElem?
 intro i
 rw [List.getElem?_set]
 by_cases hi:i<n
 ·rw [xN hi,xN hi]
  by_cases c:a=i
  ·subst c
   rw [if_pos rfl,if_pos (by simp [tabI,hi])]
   simp
  ·rw [if_neg c];simp [Ne.symm c]
 ·rw [if_neg (by omega),List.getElem?_eq_none (by simp [tabI];omega),List.getElem?_eq_none (by simp [tabI];omega)]
theorem zB {n k:Nat} (h:k<n):ixN n (k:Int)=some k:=by unfold ixN;rw [if_pos (by omega),if_pos (by omega)];simp
theorem kZ {f:Int->Int->Int} {i ja jb jv n a b:Nat} {ρ : En} {E:EndD} {T:Nat->Nat->Int} {v:Int} (h1 : ρ[i]? = some (some (.lst true (tabI T n)))) (h2 : ρ[ja]? = some (some (.int (a:Int)))) (h3 : ρ[jb]? = some (some (.int (b:Int)))) (h4 : ρ[jv]? = some (some (.int v)))
  (ha:a<n) (hb:b<n) (h:∀ T',(T'=fun x y=>if x=a∧y=b then f (T a b) v else T x y)->E.nx (ρ.set i (some (.lst true (tabI T' n))))):jU f i ja jb jv ρ E:=by
 refine ⟨tabI T n,a,b,v,a,b,_,_,h1,h2,h3,h4,?_,xN ha,?_,Dg hb,?_⟩
 ·exact zB (by simp [tabI,ha])
 ·exact zB (by simp [hb])
 ·rw [OD ha];exact h _ rfl
theorem take_snoc {ls:List Ln} {k:Nat} {l:Ln} (h:ls[k]? = some l):ls.take (k+1)=ls.take k++[l]:=by rw [List.take_add_one,h];rfl
theorem four {l:Ln} (hab:l.a≠l.b) (T:Nat->Nat->Int) (x y:Nat) (T1 T2 T3 T4:Nat->Nat->Int) (h1:T1=fun x y=>if x=l.a∧y=l.a then T l.a l.a+(l.s:Int) else T x y) (h2:T2=fun x y=>if x=l.b∧y=l.b then T1 l.b l.b+(l.s:Int) else T1 x y)
  (h3:T3=fun x y=>if x=l.a∧y=l.b then T2 l.a l.b - (l.s:Int) else T2 x y) (h4:T4=fun x y=>if x=l.b∧y=l.a then T3 l.b l.a - (l.s:Int) else T3 x y):T4 x y=T x y+Ew l x y:=by
 subst h4;subst h3;subst h2;subst h1
 have hba:=Ne.symm hab
 unfold Ew ind
 by_cases c1:x=l.a <;> by_cases c2:x=l.b <;> by_cases c3:y=l.a <;> by_cases c4:y=l.b <;> simp_all <;> omega
theorem qx {n:Nat} {ls:List Ln} (hn:n<=4) (hl:ls.length<=100) (ho:∀ l∈ls,l.Ok n) {Q:D->Option D->Prop} (h:Q (.lst true (tabI (lap ls) n)) none):eV [fD n ls] Q:=by
 have p62:(2:Int) ^ 62=4611686018427387904:=by decide
 have e1:(n:Int).toNat=n:=by omega
 dsimp? only [eV,iJ]
 rw [e1]
 refine bC ⟨by omega,by omega,by omega⟩ ?_
 (try dsimp? only)
 rw [rB]
 refine bY (fun k:Nat=>D.int (k:Int)) (fun i=>D.lst true ((List.range n).map fun j=>D.int 0)) (fun ρ => ∃ x,ρ = [x,some (fD n ls)]) ⟨_,rfl⟩ ?_ ?_
 ·rintro i _ ρ ⟨x,rfl⟩ P hP
  dsimp? only [iJ]
  rw [e1]
  refine bC ⟨by omega,by omega,by omega⟩ ?_
  (try dsimp? only)
  rw [rB]
  refine bY (fun k:Nat=>D.int (k:Int)) (fun i=>D.int 0) (fun ρ => ∃ x,ρ = [x]) ⟨_,rfl⟩ ?_ ?_
  ·rintro j _ ρ ⟨x,rfl⟩ P hP
   dsimp? only
   exact hP _ ⟨_,rfl⟩
  rintro ρ ⟨x,rfl⟩
  dsimp? only
  exact hP _ ⟨_,rfl⟩
 rintro ρ ⟨x,rfl⟩
 have e2:(List.range n).map (fun i=>D.lst true ((List.range n).map fun j=>D.int 0))=tabI (fun _ _=>0) n:=rfl
 rw [e2]
 dsimp? only [jj,cB,dF,gY,List.length_map]
 refine bC (by omega) ?_
 (try dsimp? only)
 refine cR (fun k ρ => ∃ T x2 x3 x4 x5,ρ = [some (fD n ls),some (.lst true (tabI T n)),x2,x3,x4,x5] ∧ ∀ x y,T x y=lap (ls.take k) x y) 0 ⟨_,_,_,_,_,rfl,fun x y=>rfl⟩ ?_ ?_
 ·rintro k d ρ hd ⟨T,x2,x3,x4,x5,rfl,hT⟩ P hP
  rw [Nat.zero_add] at hT hP
  rw [List.getElem?_map] at hd
  obtain ⟨l,hlk,rfl⟩:=Option.map_eq_some_iff.mp hd
  have o:=ho l (List.mem_of_getElem? hlk)
  dsimp? only [Ln.d]
  refine kZ rfl rfl rfl rfl o.a o.a fun T1 h1=>?_
  (try dsimp? only)
  refine kZ rfl rfl rfl rfl o.b o.b fun T2 h2=>?_
  (try dsimp? only)
  refine kZ rfl rfl rfl rfl o.a o.b fun T3 h3=>?_
  (try dsimp? only)
  refine kZ rfl rfl rfl rfl o.b o.a fun T4 h4=>?_
  (try dsimp? only)
  refine hP _ ⟨_,_,_,_,_,rfl,fun x y=>?_⟩
  rw [take_snoc hlk,Cz,← hT x y]
  exact four o.ne T x y T1 T2 T3 T4 h1 h2 h3 h4
 rintro ρ ⟨T,x2,x3,x4,x5,rfl,hT⟩
 rw [Nat.zero_add,List.length_map,List.take_length] at hT
 have e3:T=lap ls:=by funext x y;exact hT x y
 subst e3
 dsimp? only
 exact h
end Z
namespace Z
open PySem L2 TM
theorem km (f:Nat->Rat):∀ k,cj f (k+1)=f 0+cj (fun j=>f (j+1)) k
 | 0=>by show 0+f 0=f 0+0;grind
 | k+1=>by
  show cj f (k+1)+f (k+1)=f 0+(cj (fun j=>f (j+1)) k+f (k+1))
  rw [km f k];grind
theorem Mp {n:Nat} {l:Ln} (o:l.Ok n) (i j:Nat):(Ew l i j).natAbs<=9:=by
 have:=o.s
 unfold Ew ind
 repeat' split
 all_goals simp
 all_goals omega
theorem uD {n:Nat} (i j:Nat):∀ ls:List Ln,(∀ l∈ls,l.Ok n)->(lap ls i j).natAbs<=9*ls.length
 | [],_=>by simp [lap]
 | l :: ls,ho=>by
  have h1:=Mp (ho l List.mem_cons_self) i j
  have h2:=uD i j ls fun l' h'=>ho l' (List.mem_cons_of_mem _ h')
  rw [lap,List.length_cons];omega
def rT (ls:List Ln) (k:Nat):List (List Rat):=(List.range k).map fun i=>(List.range k).map fun j=>((lap ls (i+1) (j+1):Int):Rat)
theorem Ma (i:Int):D.tup [.int i,.int 1]=fr (i:Rat):=rfl
theorem DQ {m:Nat} {i:Int} (h:i.natAbs<2 ^ m) (hm:1<=m):Bq m (i:Rat):=⟨h,by
 show Bd m ((1:Nat):Int)
 exact Nat.lt_of_lt_of_le (by decide:(1:Nat)<2 ^ 1) (Nat.pow_le_pow_right (by decide) hm)⟩
theorem Kr {ls:List Ln} {k i j:Nat} (hi:i<k) (hj:j<k):ent (rT ls k) i j=((lap ls (i+1) (j+1):Int):Rat):=Pk (f:=fun i j=>((lap ls (i+1) (j+1):Int):Rat)) hi hj
theorem We {ls:List Ln} {k m:Nat} (hl:ls.length<=6) (ho:∀ l∈ls,l.Ok (k+1)) (hc:Cn (k+1) ls) (hm:6<=m):Tab k m (rT ls k) where
 len:=by simp [rT]
 w:=fun r h=>by obtain ⟨z,_,rfl⟩:=List.mem_map.mp h;simp
 b:=fun r h x hx=>by
  obtain ⟨z,hz,rfl⟩:=List.mem_map.mp h
  obtain ⟨y,_,rfl⟩:=List.mem_map.mp hx
  have:=uD (z+1) (y+1) ls ho
  refine (DQ (m:=6) ?_ (by decide)).mono hm
  show _<64
  omega
 i:=fun y hy j hj=>by
  have:=qJ hc ho (x:=fun j=>if j=0 then 0 else y (j - 1)) rfl (fun i h1 h2=>by
   obtain ⟨i',rfl⟩:∃ i',i=i'+1:=⟨i - 1,by omega⟩
   rw [← qP (n:=k+1) _ _ ls ho,km]
   show ((lap ls (i'+1) 0:Int):Rat)*0+cj (fun j=>((lap ls (i'+1) (j+1):Int):Rat)*y j) k=0
   have e:=hy i' (by omega)
   rw [bQ k (g:=fun j=>((lap ls (i'+1) (j+1):Int):Rat)*y j) fun j hj=>by rw [Kr (by omega) hj]] at e
   rw [e]
   grind) (j+1) (by omega)
  rw [if_neg (by omega)] at this
  exact this
theorem By (i:Int):Rat.divInt i 1=(i:Rat):=jR (i:Rat)
theorem Vm {o:Bool} {d:D} {ds:List D} (hs:D.shs (d :: ds)=true):dSl (.lst o (d :: ds)) (some 1) none=some (.lst true ds):=by
 show (if D.shs (d :: ds)=true then some (D.lst true (cutD (d :: ds) (some ((1:Nat):Int)) none)) else none)=_
 rw [if_pos hs,pq _ 1 (by simp)];rfl
def mq (f:Nat->Int) (n:Nat):D:=.lst false ((List.range n).map fun j=>D.int (f j))
theorem qK (f:Nat->Int) (l:List Nat):D.fzs (l.map fun j=>D.int (f j))=l.map fun j=>D.int (f j):=jh _ (fun _=>rfl) l
theorem rF (f:Nat->Int) (l:List Nat):D.shs (l.map fun j=>D.int (f j))=true:=gm _ (fun _=>rfl) l
theorem Cj (T:Nat->Nat->Int) (n:Nat):∀ l:List Nat,D.fzs (l.map fun i=>D.lst true ((List.range n).map fun j=>D.int (T i j)))=l.map fun i=>mq (T i) n
 | []=>by simp [D.fzs]
 | i :: l=>by rw [List.map_cons,D.fzs,D.fz,qK,Cj T n l];rfl
theorem Hf (T:Nat->Nat->Int) (n:Nat):D.fzs (tabI T n)=(List.range n).map fun i=>mq (T i) n:=Cj T n _
theorem pK (f:Nat->Int) (n:Nat):(mq f n).sh=true:=by show (!false&&D.shs _)=true;rw [rF];rfl
theorem Hd (f:Nat->Int) (n:Nat):(mq f n).fz=mq f n:=by show D.lst false (D.fzs _)=_;rw [qK];rfl
theorem sz3 {m:Nat}:∀ k,k<=3->sz m k<=100*m+100
 | 0,_=>by simp only [sz];omega
 | 1,_=>by simp only [sz];omega
 | 2,_=>by simp only [sz];omega
 | 3,_=>by simp only [sz];omega
 | k+4,h=>by omega
theorem Good.cn {n:Nat} {ls:List Ln} (G:Good n ls):Cn n ls:=(Gf G.n1 G.o).mp G.j
theorem El {m n:Nat} {ls:List Ln} {ps:List Rat} (G:Good n ls) (hl:ps.length=n) (hb:∀ p∈ps,Bq m p) (hm:m<=20000) (hz:cj (fun i=>ps.getD i 0) n=0) {Q:D->Option D->Prop}
  (h:∀ hs,Is n ls ps hs->(∀ x∈hs,Bq (100*(m+6)+100) x)->Q (.lst true (hs.map fr)) none):mz [fD n ls,.lst false (ps.map fr)] Q:=by
 have h4:=G.n4
 have h1:=G.n1
 have h6:=G.l
 have hcn:=G.cn
 obtain ⟨k,rfl⟩:∃ k,n=k+1:=⟨n - 1,by omega⟩
 have hk3:k<=3:=by omega
 dsimp? only [mz,bZ,aB,aF,aG,aK,aC,au,aq,aZ,bw,aD,aO,aN,aP,az,Int.zero_add]
 refine pX hl h4 hb (by omega) hz ?_
 dsimp? only [GD,bV,bZ,aB,aF,aG,aK,aC,au,aq,aZ,bw,aD,aO,aN,aP,az,Int.zero_add]
 refine qx h4 (by omega) G.o ?_
 have s1:dSl (.lst false ((List.range (k+1)).map fun i=>mq (lap ls i) (k+1))) (some 1) none=some (.lst true ((List.range k).map fun i=>mq (lap ls (i+1)) (k+1))):=by
  rw [List.range_succ_eq_map,List.map_cons,Vm (by rw [D.shs,pK,gm _ (fun _=>pK _ _)];rfl),List.map_map];rfl
 have c1:=jh (fun i=>mq (lap ls (i+1)) (k+1)) (fun i=>Hd _ _) (List.range k)
 have c2:=gm (fun i=>mq (lap ls (i+1)) (k+1)) (fun i=>pK _ _) (List.range k)
 dsimp? only [GD,bV,Hf,s1,c1,c2,List.length_map,List.length_range]
 refine bC (by omega) ?_
 dsimp? only
 refine bY (fun i=>mq (lap ls (i+1)) (k+1)) (fun i=>zV ((List.range k).map fun j=>((lap ls (i+1) (j+1):Int):Rat))) (fun ρ => ∃ x,ρ = [x]) ⟨_,rfl⟩ ?_ ?_
 ·rintro i _ ρ ⟨x,rfl⟩ P hP
  have s2:dSl (mq (lap ls (i+1)) (k+1)) (some 1) none=some (.lst true ((List.range k).map fun j=>D.int (lap ls (i+1) (j+1)))):=by
   unfold mq
   rw [List.range_succ_eq_map,List.map_cons,Vm (by rw [D.shs];rw [List.map_map];exact gm _ (fun _=>rfl) _),List.map_map];rfl
  have d1:=qK (fun j=>lap ls (i+1) (j+1)) (List.range k)
  have d2:=rF (fun j=>lap ls (i+1) (j+1)) (List.range k)
  dsimp? only [s2,d1,d2,List.length_map,List.length_range]
  refine bC (by omega) ?_
  (try dsimp? only)
  refine bY (fun j=>D.int (lap ls (i+1) (j+1))) (fun j=>fr ((lap ls (i+1) (j+1):Int):Rat)) (fun ρ => ∃ x,ρ = [x]) ⟨_,rfl⟩ ?_ ?_
  ·rintro j _ ρ ⟨x,rfl⟩ P hP
   dsimp? only
   refine jq (by decide) ?_
   rw [By]
   dsimp? only [aB,aF,aG,aK,aC,au,aq,aZ,bw,aD,aO,aN,aP,az,Int.zero_add]
   exact hP _ ⟨_,rfl⟩
  rintro ρ ⟨x,rfl⟩
  have e4:(List.range k).map (fun j=>fr ((lap ls (i+1) (j+1):Int):Rat))=((List.range k).map fun j=>((lap ls (i+1) (j+1):Int):Rat)).map fr:=by rw [List.map_map];rfl
  rw [e4]
  (try dsimp? only)
  exact hP _ ⟨_,rfl⟩
 rintro ρ ⟨x,rfl⟩
 have e5:(List.range k).map (fun i=>zV ((List.range k).map fun j=>((lap ls (i+1) (j+1):Int):Rat)))=(rT ls k).map zV:=by unfold rT;rw [List.map_map];rfl
 rw [e5]
 obtain ⟨p0,qs,rfl⟩:∃ p0 qs,ps=p0 :: qs:=by
  cases ps with
  | nil=>simp at hl
  | cons p qs=>exact ⟨p,qs,rfl⟩
 have hql:qs.length=k:=by simpa using hl
 have s3:dSl (.lst false ((p0 :: qs).map fr)) (some 1) none=some (.lst true (qs.map fr)):=by
  rw [List.map_cons,Vm (by rw [← List.map_cons];exact aC _)]
 have s4:dSl (.lst false (fr p0 :: qs.map fr)) (some 1) none=some (.lst true (qs.map fr)):=s3
 dsimp? only [bV,s3,s4,List.map_cons,aB,aF,aG,aK,aC,au,aq,aZ,bw,aD,aO,aN,aP,az,Int.zero_add]
 have T:=We (m:=m+6) h6 G.o hcn (by omega)
 refine JC (m:=m+6) T.len hql T.w (by omega) (by omega) T.b (fun x hx=>(hb x (List.mem_cons_of_mem _ hx)).mono (by omega)) ?_ ?_
 ·rintro ⟨y,⟨i,hi,hy⟩,hg⟩
  refine absurd (T.i y (fun i hi=>?_) i hi) hy
  have h1:=hg i hi
  rw [Rat.zero_mul] at h1
  rw [← h1]
  exact bQ k fun j hj=>by rw [Gu T.len hql T.w hi hj]
 ·intro sol hsl hg _ _ hsb
  have ha:cI [.lst true [fr 0],.lst true (sol.map fr)]=some (.lst true ((0 :: sol).map fr)):=by
   rw [iH _ _ _ _ (by rw [sizeLine_eq,List.length_map,hsl];show 1+k<=_;omega) (by simp [D.shs,aZ]) (aC _)];rfl
  dsimp? only [nP,ha,aB,aF,aG,aK,aC,au,aq,aZ,bw,aD,aO,aN,aP,az,Int.zero_add]
  refine h (0 :: sol) ⟨by simp [hsl],rfl,fun i h1 h2=>?_⟩ fun x hx=>?_
  ·obtain ⟨i',rfl⟩:∃ i',i=i'+1:=⟨i - 1,by omega⟩
   have hi':i'<k:=by omega
   have hg':=hg i' hi'
   rw [Kp T.len hql T.w hi',Rat.one_mul] at hg'
   rw [← qP (n:=k+1) _ _ ls G.o,km]
   show _=qs.getD i' 0
   rw [← hg',bQ k (g:=fun j=>ent (mQ (rT ls k) qs) i' j*sol.getD j 0) fun j hj=>by rw [Gu T.len hql T.w hi' hj,Kr hi' hj];rfl]
   show _*(0:Rat)+_=_
   grind
  ·rcases List.mem_cons.mp hx with rfl | hx
   ·exact bq0.mono (by omega)
   ·exact (hsb x hx).mono (Nat.le_trans (sz3 k hk3) (by omega))
def cP (ls:List Ln) (hs:List Rat):List Rat:=ls.map fun l=>((l.s:Int):Rat)*(hs.getD l.a 0 - hs.getD l.b 0)
theorem getD_some {r:List Rat} {a:Nat} (h:a<r.length):r[a]? = some (r.getD a 0):=by rw [List.getD_eq_getElem?_getD,List.getElem?_eq_getElem h];rfl
theorem Xh {n:Nat} {l:Ln} (o:l.Ok n):Bq 4 ((l.s:Int):Rat):=DQ (by have:=o.s;show _<16;omega) (by decide)
theorem Ie {m n:Nat} {ls:List Ln} {hs:List Rat} (ho:∀ l∈ls,l.Ok n) (hl:hs.length=n) (hb:∀ x∈hs,Bq m x):∀ x∈cP ls hs,Bq (2*m+5) x:=fun x hx=>by
 obtain ⟨l,hm,rfl⟩:=List.mem_map.mp hx
 have o:=ho l hm
 exact (rY (Xh o) (yS (hb _ (List.mem_of_getElem? (getD_some (by rw [hl];exact o.a)))) (hb _ (List.mem_of_getElem? (getD_some (by rw [hl];exact o.b)))))).mono (by omega)
theorem FN {m n:Nat} {ls:List Ln} {ps:List Rat} (G:Good n ls) (hl:ps.length=n) (hb:∀ p∈ps,Bq m p) (hm:m<=20000) (hz:cj (fun i=>ps.getD i 0) n=0) {Q:D->Option D->Prop}
  (h:∀ hs,Is n ls ps hs->(∀ x∈hs,Bq (100*(m+6)+100) x)->Q (.lst true ((cP ls hs).map fr)) none):dq [fD n ls,.lst false (ps.map fr)] Q:=by
 have h6:=G.l
 dsimp? only [dq,bZ,aB,aF,aG,aK,aC,au,aq,aZ,bw,aD,aO,aN,aP,az,Int.zero_add]
 refine El G hl hb hm hz fun hs I hsb=>?_
 dsimp? only [bV,bZ,aB,aF,aG,aK,aC,au,aq,aZ,bw,aD,aO,aN,aP,az,Int.zero_add,jj,cB,dF,gY,List.length_map]
 refine bC (by omega) ?_
 dsimp? only [bV,aB,aF,aG,aK,aC,au,aq,aZ,bw,aD,aO,aN,aP,az,Int.zero_add]
 refine bY Ln.d (fun l=>fr (((l.s:Int):Rat)*(hs.getD l.a 0 - hs.getD l.b 0))) (fun ρ => ∃ x y z w o,ρ = [x,y,z,w,some (.lst o (hs.map fr))]) ⟨_,_,_,_,_,rfl⟩ ?_ ?_
 ·rintro l hlm ρ ⟨x,y,z,w,o,rfl⟩ P hP
  have ok:=G.o l hlm
  have ga:=getD_some (r:=hs) (a:=l.a) (by rw [I.l];exact ok.a)
  have gb:=getD_some (r:=hs) (a:=l.b) (by rw [I.l];exact ok.b)
  have ba:=hsb _ (List.mem_of_getElem? ga)
  have bb:=hsb _ (List.mem_of_getElem? gb)
  dsimp? only [Ln.d,Ma,pD ga,pD gb,aB,aF,aG,aK,aC,au,aq,aZ,bw,aD,aO,aN,aP,az,Int.zero_add]
  refine wg ba bb (by omega) ?_
  dsimp? only [aB,aF,aG,aK,aC,au,aq,aZ,bw,aD,aO,aN,aP,az,Int.zero_add]
  refine Dv (Xh ok) (yS ba bb) (by omega) ?_
  dsimp? only [aB,aF,aG,aK,aC,au,aq,aZ,bw,aD,aO,aN,aP,az,Int.zero_add]
  exact hP _ ⟨_,_,_,_,_,rfl⟩
 rintro ρ ⟨x,y,z,w,o,rfl⟩
 have e:=h hs I hsb
 unfold cP at e
 rw [List.map_map] at e
 (try dsimp? only)
 exact e
end Z
namespace Z
open PySem L2 TM
theorem tX {bag:D} {s:Nat} (hB:Bag bag) (hs:s<=6) {Q:D->Option D->Prop} (h:∀ (bag':D) (r:Nat),Bag bag'->r<1000000 ^ s->Q (.int r) (some bag')):gA [bag,.int s] Q:=by
 have p62:(2:Int) ^ 62=4611686018427387904:=by decide
 have e1:(s:Int).toNat=s:=by omega
 dsimp? only [gA]
 rw [e1]
 refine bC ⟨by omega,by omega,by omega⟩ ?_
 (try dsimp? only)
 refine cR (fun k ρ => ∃ (bag:D) (x:Nat) (z:Option D),ρ = [some bag,some (.int s),some (.int x),z]∧Bag bag∧x<1000000 ^ k) 0 ⟨bag,0,_,rfl,hB,by decide⟩ ?_ ?_
 ·rintro k d ρ hd ⟨bag,x,z,rfl,hB,hx⟩ P hP
  obtain ⟨hk,rfl⟩:=iK hd
  rw [Nat.zero_add] at hx
  have hx2:x<1000000 ^ 5:=Nat.lt_of_lt_of_le hx (Nat.pow_le_pow_right (by decide) (show k<=5 by omega))
  have c1:iw x 1000000=true:=cb (m:=100) (n:=20) (iY (m:=1000000 ^ 5) (by omega) (by decide)) (iY (m:=1000001) (by decide) (by decide)) (by decide)
  dsimp? only [Int.zero_add,Zh,c1]
  refine cF (many:=1000000) hB (by decide) fun bag' r hB' hr=>?_
  dsimp? only [hB'.clean]
  have ec:(x:Int)*1000000+(r:Int)=((x*1000000+r:Nat):Int):=by omega
  rw [ec]
  refine hP _ ⟨bag',x*1000000+r,_,rfl,hB',?_⟩
  rw [Nat.zero_add,Nat.pow_succ]
  have:(x+1)*1000000<=1000000 ^ k*1000000:=Nat.mul_le_mul_right _ hx
  omega
 ·rintro ρ ⟨bag,x,z,rfl,hB,hx⟩
  rw [jT,Nat.zero_add] at hx
  dsimp? only
  exact h bag x hB hx
theorem Nq (x y:Int):∀ r:Nat,r<2 -> ∃ z,(z=x∨z=y)∧dIx [.lst true [.int x,.int y],.int (r:Int)]=some (.int z)
 | 0,_=>⟨x,.inl rfl,rfl⟩
 | 1,_=>⟨y,.inr rfl,rfl⟩
 | r+2,h=>by omega
def qR:cD:=
 (aR (bK 5 (fH [.val (sC (.int 0))]))
 (aR (il (mW (.val (sC (.int 1))) (.val (aW 1 (.val (sC (.int 0)))))) (gN 6)
 (aR (bK 7 (sDo dIx [.val (fH [.val (cG 2 bh 0 [.val (sC (.int 200))]),.val (cG 2 gA 0 [.nam 2])]),.nam 3]))
 (iM (lO gh 5 [.val (sDo dH [.nam 7,.val (sDo dIx [.val (fH [.val (sC (.int 1)),.val (sDo vg [.val (sC (.int 1))])]),.val (cG 2 bh 0 [.val (sC (.int 2))])])])]))))
 (aR (bK 8 (cO (gq (aW 1 (.val (sC (.int 1))))) 1 [5] (gN 0) (fu) (sDo dH [.val (aW 0 (.val (sC (.int 2)))),.val (sDo pN [.val (aW 1 (.val (aW 0 (.val (sC (.int 0)))))),.val (aW 1 (.val (aW 0 (.val (sC (.int 1))))))])])))
 (aR (bK 9 (sDo dH [.val (fH [.val (sC (.int 0))]),.val (aW 1 (.val (sC (.int 0))))]))
 (aR (il (Cr (aW 1 (.val (sC (.int 1)))) (cC 8)) (gT [gN 10,gN 11])
 (aR (jV 9 (sDo cI [.val (aW 9 (.val (aW 10 (.val (sC (.int 0)))))),.nam 11]) (.val (aW 10 (.val (sC (.int 0))))))
 (jV 9 (sDo pN [.val (aW 9 (.val (aW 10 (.val (sC (.int 1)))))),.nam 11]) (.val (aW 10 (.val (sC (.int 1))))))))
 (cT (cO (gq (fH [.val (cC 5),.val (cC 8),.val (cC 9)])) 1 [4] (gN 0) (fu) (cO (gq (cC 0)) 1 [1] (gN 0) (fu) (aV 2 bR [.nam 0,.nam 1]))))))))) 
def lW (n:Nat) (ls:List Ln) (hs:List Rat):List Rat:=(List.range n).map fun i=>flow (fun j=>hs.getD j 0) ls i
def kj (ts:List Int) (l:Ln):Int:=(l.s:Int)*(ts.getD l.a 0 - ts.getD l.b 0)
def fL (ts:List Int):List Ln->Nat->Int
 | [],_=>0
 | l :: ls,i=>(ind i l.a - ind i l.b)*kj ts l+fL ts ls i
theorem yz (ts:List Int) (i:Nat):∀ ls ms:List Ln,fL ts (ls++ms) i=fL ts ls i+fL ts ms i
 | [],ms=>by simp [fL]
 | l :: ls,ms=>by rw [List.cons_append,fL,yz ts i ls ms,fL];omega
theorem Ei (ts:List Int) (ls:List Ln) (l:Ln) (i:Nat):fL ts (ls++[l]) i=fL ts ls i+(ind i l.a - ind i l.b)*kj ts l:=by rw [yz];simp [fL]
theorem eX (t b:Int):Rat.divInt t b=((1:Rat) / (b:Rat))*(t:Rat):=by
 rw [Rat.divInt_eq_div];grind
def pO (ts:List Int) (b:Int):List Rat:=ts.map fun t=>Rat.divInt t b
theorem oK (ts:List Int) (b:Int) (i:Nat):(pO ts b).getD i 0=Rat.divInt (ts.getD i 0) b:=by
 unfold pO
 rw [List.getD_eq_getElem?_getD,List.getElem?_map,List.getD_eq_getElem?_getD]
 cases ts[i]? with
 | none=>simp
 | some t=>rfl
theorem Cg (ts:List Int) (b:Int) (i:Nat):∀ ls:List Ln,flow (fun j=>(pO ts b).getD j 0) ls i=Rat.divInt (fL ts ls i) b
 | []=>by simp [flow,fL]
 | l :: ls=>by
  rw [flow,Cg ts b i ls,fL,oK,oK,eX,eX,eX,eX,Rat.intCast_add,Rat.intCast_mul,Rat.intCast_sub,tW,tW,kj,Rat.intCast_mul,Rat.intCast_sub];grind
theorem Om (ts:List Int) (b:Int) (ls:List Ln):cP ls (pO ts b)=pO (ls.map (kj ts)) b:=by
 unfold cP
 rw [show pO (ls.map (kj ts)) b=ls.map fun l=>Rat.divInt (kj ts l) b from by unfold pO;rw [List.map_map];rfl]
 apply List.map_congr_left
 intro l _
 rw [oK,oK,eX,eX,eX,kj,Rat.intCast_mul,Rat.intCast_sub];grind
theorem BV (n:Nat) (ts:List Int) (b:Int) (ls:List Ln):lW n ls (pO ts b)=pO ((List.range n).map fun i=>fL ts ls i) b:=by
 unfold lW
 rw [show pO ((List.range n).map fun i=>fL ts ls i) b=(List.range n).map fun i=>Rat.divInt (fL ts ls i) b from by unfold pO;rw [List.map_map];rfl]
 apply List.map_congr_left
 intro i _
 exact Cg ts b i ls
theorem uA {ts:List Int} {m:Nat} (h:∀ t∈ts,t.natAbs<=m) (i:Nat):(ts.getD i 0).natAbs<=m:=by
 rw [List.getD_eq_getElem?_getD]
 cases e:ts[i]? with
 | none=>simp
 | some t=>exact h t (List.mem_of_getElem? e)
theorem HY {n:Nat} {ts:List Int} {m:Nat} {l:Ln} (o:l.Ok n) (h:∀ t∈ts,t.natAbs<=m):(kj ts l).natAbs<=18*m:=by
 have h1:=uA h l.a
 have h2:=uA h l.b
 have h3:=o.s.2
 unfold kj
 rw [Int.natAbs_mul]
 have:(ts.getD l.a 0 - ts.getD l.b 0).natAbs<=2*m:=by omega
 calc (l.s:Int).natAbs*(ts.getD l.a 0 - ts.getD l.b 0).natAbs<=9*(2*m):=Nat.mul_le_mul (by omega) this
  _=18*m:=by omega
theorem Ce {n:Nat} {ts:List Int} {m:Nat} (i:Nat) (h:∀ t∈ts,t.natAbs<=m):∀ ls:List Ln,(∀ l∈ls,l.Ok n)->(fL ts ls i).natAbs<=18*m*ls.length
 | [],_=>by simp [fL]
 | l :: ls,ho=>by
  have h1:=HY (ho l List.mem_cons_self) h
  have h2:=Ce i h ls fun l' h'=>ho l' (List.mem_cons_of_mem _ h')
  have o:=ho l List.mem_cons_self
  have h3:((ind i l.a - ind i l.b)*kj ts l).natAbs<=18*m:=by
   have hne:=o.ne
   rw [Int.natAbs_mul]
   have:(ind i l.a - ind i l.b).natAbs<=1:=by unfold ind;split <;> split <;> omega
   calc (ind i l.a - ind i l.b).natAbs*(kj ts l).natAbs<=1*(18*m):=Nat.mul_le_mul this h1
    _=18*m:=by omega
  rw [fL,List.length_cons,Nat.mul_succ]
  have:=Int.natAbs_add_le ((ind i l.a - ind i l.b)*kj ts l) (fL ts ls i)
  omega
end Z
namespace Z
open PySem L2 TM
theorem uB {β : Type} {g:Nat -> β} {n a:Nat} (h:a<n):ixN ((List.range n).map g).length (a:Int)=some a:=zB (by simpa using h)
theorem Cw {o:Bool} {f:Nat->Int} {n a:Nat} (h:a<n):ixF (.lst o ((List.range n).map fun j=>D.int (f j))) (a:Int)=some (.int (f a),none):=ji _ _ (mO (Dg h)) rfl
theorem De (n:Nat):(List.replicate n [D.int 0]).flatten=(List.range n).map fun i=>D.int ((fun _=>0) i):=by
 apply List.ext_getElem?
 intro i
 rw [List.flatten_replicate_singleton,List.getElem?_replicate,List.getElem?_map]
 by_cases h:i<n
 ·rw [if_pos h,List.getElem?_range h];rfl
 ·rw [if_neg h,List.getElem?_eq_none (by simpa using h)];rfl
theorem yQ {α : Type} (f g : α -> D) (xs:List α):mL (xs.map f) (xs.map g)=xs.map fun x=>D.tup [f x,g x]:=by
 unfold mL
 rw [List.zip_map',List.map_map];rfl
theorem ints_of {α : Type} (f : α -> Int) (xs:List α):(xs.map f).map D.int=xs.map fun x=>D.int (f x):=by rw [List.map_map];rfl
theorem Ph {l:Ln} {n:Nat} (o:l.Ok n) (ts:List Int) (f:Nat->Int) (i:Nat):(if i=l.b then (if l.b=l.a then f l.a+kj ts l else f l.b) - kj ts l else if i=l.a then f l.a+kj ts l else f i)=f i+(ind i l.a - ind i l.b)*kj ts l:=by
 have h1:=o.ne
 have h2:=Ne.symm h1
 unfold ind
 by_cases c1:i=l.a <;> by_cases c2:i=l.b <;> simp_all <;> omega
theorem zE {bag:D} {n s r b:Nat} {ls:List Ln} (hB:Bag bag) (G:Good n ls) (hs:s<=5) (hr:r<2) (hb1:1<=b) (hb2:b<=1000000 ^ 5) {Q:D->Option D->Prop}
  (h:∀ (bag':D) (hs:List Rat),Bag bag'->hs.length=n->hs.getD 0 0=0->(∀ x∈hs,Bq 101 x)->(∀ x∈lW n ls hs,Bq 120 x) ->
   Q (.lst true [.lst true (hs.map fr),.lst true ((cP ls hs).map fr),.lst true ((lW n ls hs).map fr)]) (some bag')) :
  qR [some bag,some (fD n ls),some (.int s),some (.int r),some (.int b),none,none,none,none,none,none,none] ⟨fun ρ => Q .non (qN true ρ),fun d ρ => Q d (qN true ρ),fun _=>False,fun _=>False⟩:=by
 have p62:(2:Int) ^ 62=4611686018427387904:=by decide
 have h1:=G.n1
 have h4:=G.n4
 have h6:=G.l
 have e1:((n:Int) - 1).toNat=n - 1:=by omega
 have hp5:(1000000:Nat) ^ 5=1000000000000000000000000000000:=by decide
 have hps:1000000 ^ s<=1000000 ^ 5:=Nat.pow_le_pow_right (by decide) hs
 dsimp? only [qR,iJ]
 rw [e1]
 refine bC ⟨by omega,by omega,by omega,by omega,by omega⟩ ?_
 (try dsimp? only)
 refine cR (fun k ρ => ∃ (bag:D) (ts:List Int) (x6 x7:Option D),ρ = [some bag,some (fD n ls),some (.int s),some (.int r),some (.int b),some (.lst true (ts.map D.int)),x6,x7,none,none,none,none]∧Bag bag∧ts.length=1+k∧ts.getD 0 0=0 ∧ ∀ t∈ts,t.natAbs<=1000000 ^ 5) 0
  ⟨bag,[0],_,_,rfl,hB,rfl,rfl,fun t h=>by rw [List.mem_singleton.mp h];decide⟩ ?_ ?_
 ·rintro k d ρ hd ⟨bag,ts,x6,x7,rfl,hB,htl,ht0,htb⟩ P hP
  obtain ⟨hk,rfl⟩:=iK hd
  rw [Nat.zero_add] at htl
  dsimp? only
  refine cF (many:=200) hB (by decide) fun bag1 x hB1 hx=>?_
  dsimp? only [hB1.clean]
  refine tX (s:=s) hB1 (by omega) fun bag2 y hB2 hy=>?_
  obtain ⟨z,hz,hix⟩:=Nq x y r hr
  have hzb:z.natAbs<=1000000 ^ 5:=by rcases hz with rfl | rfl <;> omega
  dsimp? only [hB2.clean,hix]
  refine cF (many:=2) hB2 (by decide) fun bag3 v hB3 hv=>?_
  obtain ⟨y',hy',hix'⟩:=Nq 1 (-1) v hv
  have hyb:y'.natAbs=1:=by rcases hy' with rfl | rfl <;> decide
  have c1:iw z y'=true:=cb (m:=100) (n:=1) (iY (m:=1000000 ^ 5+1) (by omega) (by decide)) (iY (m:=2) (by omega) (by decide)) (by decide)
  dsimp? only [hB3.clean,hix',c1,Int.reduceNeg,vX (ds:=ts.map D.int) (d:=.int (z*y')) (by rw [List.length_map];omega)]
  have e2:ts.map D.int++[D.int (z*y')]=(ts++[z*y']).map D.int:=by rw [List.map_append];rfl
  rw [e2]
  refine hP _ ⟨bag3,ts++[z*y'],_,_,rfl,hB3,by rw [List.length_append,htl,List.length_singleton];omega,?_,fun t h=>?_⟩
  ·rw [List.getD_eq_getElem?_getD,List.getElem?_append_left (by omega),← List.getD_eq_getElem?_getD];exact ht0
  ·rcases List.mem_append.mp h with z1 | z1
   ·exact htb t z1
   ·rw [List.mem_singleton.mp z1,Int.natAbs_mul,hyb,Nat.mul_one];exact hzb
 rintro ρ ⟨bag,ts,x6,x7,rfl,hB,htl,ht0,htb⟩
 rw [jT,Nat.zero_add] at htl
 have htn:ts.length=n:=by omega
 dsimp? only [jj,cB,dF,gY,List.length_map]
 refine bC (by omega) ?_
 (try dsimp? only)
 refine bY Ln.d (fun l=>D.int (kj ts l)) (fun ρ => ∃ x,ρ = [x,some (.lst true (ts.map D.int))]) ⟨_,rfl⟩ ?_ ?_
 ·rintro l hlm ρ ⟨x,rfl⟩ P hP
  have o:=G.o l hlm
  have hd:=HY o htb
  have g1:=uA htb l.a
  have g2:=uA htb l.b
  have c1:iw (l.s:Int) (ts.getD l.a 0 - ts.getD l.b 0)=true:=cb (m:=4) (n:=102) (iY (m:=16) (by have:=o.s;omega) (by decide)) (iY (m:=2*1000000 ^ 5+1) (by omega) (by decide)) (by decide)
  have i2:ixF (.tup [.int (l.a:Int),.int (l.b:Int),.int (l.s:Int),.int (l.m:Int)]) 2=some (.int (l.s:Int),none):=rfl
  have i0:ixF (.tup [.int (l.a:Int),.int (l.b:Int),.int (l.s:Int),.int (l.m:Int)]) 0=some (.int (l.a:Int),none):=rfl
  have i1:ixF (.tup [.int (l.a:Int),.int (l.b:Int),.int (l.s:Int),.int (l.m:Int)]) 1=some (.int (l.b:Int),none):=rfl
  dsimp? only [Ln.d,i0,i1,i2,jr (o:=true) (g:=ts) (k:=l.a) (by rw [htn];exact o.a),jr (o:=true) (g:=ts) (k:=l.b) (by rw [htn];exact o.b),c1]
  exact hP _ ⟨_,rfl⟩
 rintro ρ ⟨x,rfl⟩
 have em:=sI (o:=true) (x:=.int 0) (n:=n) (by omega)
 have f8:D.fzs (ls.map fun l=>D.int (kj ts l))=ls.map fun l=>D.int (kj ts l):=jh _ (fun _=>rfl) _
 have s8:D.shs (ls.map fun l=>D.int (kj ts l))=true:=gm _ (fun _=>rfl) _
 dsimp? only [↓Qn,D.lt,em,iJ,jj,cB,dF,gY,f8,s8,List.length_map,De,yQ]
 refine bC (by omega) ?_
 dsimp? only [gY,f8,s8,yQ]
 refine cR (fun k ρ => ∃ (f:Nat->Int) (x10 x11:Option D),ρ = [some bag,some (fD n ls),some (.int s),some (.int r),some (.int b),some (.lst true (ts.map D.int)),x6,x7,some (.lst false (ls.map fun l=>D.int (kj ts l))),some (.lst true ((List.range n).map fun i=>D.int (f i))),x10,x11] ∧ ∀ i,f i=fL ts (ls.take k) i) 0
  ⟨fun _=>0,_,_,rfl,fun i=>rfl⟩ ?_ ?_
 ·rintro k d ρ hd ⟨f,x10,x11,rfl,hf⟩ P hP
  rw [Nat.zero_add] at hf hP
  rw [List.getElem?_map] at hd
  obtain ⟨l,hlk,rfl⟩:=Option.map_eq_some_iff.mp hd
  have o:=G.o l (List.mem_of_getElem? hlk)
  have i0:ixF (.tup [.int (l.a:Int),.int (l.b:Int),.int (l.s:Int),.int (l.m:Int)]) 0=some (.int (l.a:Int),none):=rfl
  have i1:ixF (.tup [.int (l.a:Int),.int (l.b:Int),.int (l.s:Int),.int (l.m:Int)]) 1=some (.int (l.b:Int),none):=rfl
  dsimp? only [Ln.d,i0,i1,Cw o.a,Cw o.b,uB o.a,uB o.b,Dh]
  refine hP _ ⟨_,_,_,rfl,fun i=>?_⟩
  rw [take_snoc hlk,Ei,← hf i]
  exact Ph o ts f i
 rintro ρ ⟨f,x10,x11,rfl,hf⟩
 rw [Nat.zero_add,List.length_map,List.take_length] at hf
 have ef:f=fun i=>fL ts ls i:=by funext i;exact hf i
 subst ef
 have f9:=qK (fun i=>fL ts ls i) (List.range n)
 have s9:=rF (fun i=>fL ts ls i) (List.range n)
 dsimp? only [gw,dN,f8,s8,f9,s9]
 have eL:[D.lst false (ts.map D.int),D.lst false (ls.map fun l=>D.int (kj ts l)),D.lst false ((List.range n).map fun i=>D.int (fL ts ls i))]=[ts,ls.map (kj ts),(List.range n).map fun i=>fL ts ls i].map fun r=>D.lst false (r.map D.int):=by simp only [List.map_cons,List.map_nil,ints_of]
 rw [eL]
 have hb0:(b:Int)≠0:=by omega
 refine bY (fun r:List Int=>D.lst false (r.map D.int)) (fun r=>D.lst true ((pO r b).map fr)) (fun ρ => ∃ x,ρ = [x,some (.int b)]) ⟨_,rfl⟩ ?_ ?_
 ·rintro r hr ρ ⟨x,rfl⟩ P hP
  have hrl:r.length<=6:=by
   rcases List.mem_cons.mp hr with rfl | hr
   ·omega
   rcases List.mem_cons.mp hr with rfl | hr
   ·simpa using h6
   ·rw [List.mem_singleton.mp hr];simp;omega
  dsimp? only [gw,dN,List.length_map]
  refine bC (by omega) ?_
  (try dsimp? only)
  refine bY D.int (fun t=>fr (Rat.divInt t b)) (fun ρ => ∃ x,ρ = [x,some (.int b)]) ⟨_,rfl⟩ ?_ ?_
  ·rintro t _ ρ ⟨x,rfl⟩ P hP
   dsimp? only
   refine lY hb0 ?_
   dsimp? only [aB,aF,aG,aK,aC,au,aq,aZ,bw,aD,aO,aN,aP,az,Int.zero_add]
   exact hP _ ⟨_,rfl⟩
  rintro ρ ⟨x,rfl⟩
  (try dsimp? only)
  have e4:r.map (fun t=>fr (Rat.divInt t b))=(pO r b).map fr:=by unfold pO;rw [List.map_map];rfl
  rw [e4]
  exact hP _ ⟨_,rfl⟩
 rintro ρ ⟨x,rfl⟩
 (try dsimp? only)
 have:=h bag (pO ts b) hB (by simp [pO,htn]) (by rw [oK,ht0];simp) (fun x hx=>?_) (fun x hx=>?_)
 ·rw [Om,BV] at this
  exact this
 ·obtain ⟨t,ht,rfl⟩:=List.mem_map.mp hx
  have:=htb t ht
  exact tL hb0 (iY (m:=1000000 ^ 5+1) (by omega) (by decide)) (iY (m:=1000000 ^ 5+1) (by omega) (by decide))
 ·rw [BV] at hx
  obtain ⟨t,ht,rfl⟩:=List.mem_map.mp hx
  obtain ⟨i,_,rfl⟩:=List.mem_map.mp ht
  have:=Ce i htb ls G.o
  have h18:18*1000000 ^ 5*ls.length<=18*1000000 ^ 5*6:=Nat.mul_le_mul_left _ h6
  exact tL hb0 (iY (m:=18*1000000 ^ 5*6+1) (by omega) (by decide)) (iY (m:=1000000 ^ 5+1) (by omega) (by decide))
end Z
namespace Z
open PySem L2 TM
theorem Og (ds:List D) {i:Nat} (hs:D.shs ds=true) (hi:i<=ds.length):qH (.tup ds) none (some (i:Int))=some (.tup (ds.take i)):=by
 show (if _ then _ else _)=_
 rw [if_pos hs,yZ ds i hi]
theorem Dq (ds:List D) {i:Nat} (hs:D.shs ds=true) (hi:i<=ds.length):qH (.tup ds) (some (i:Int)) none=some (.tup (ds.drop i)):=by
 show (if _ then _ else _)=_
 rw [if_pos hs,pq ds i hi]
theorem uM (o:Bool) (ds:List D) {i:Nat} (hs:D.shs ds=true) (hi:i<=ds.length):qH (.lst o ds) none (some (i:Int))=some (.lst true (ds.take i)):=by
 show (if _ then _ else _)=_
 rw [if_pos hs,yZ ds i hi]
theorem iD (o:Bool) (ds:List D) {i:Nat} (hs:D.shs ds=true) (hi:i<=ds.length):qH (.lst o ds) (some (i:Int)) none=some (.lst true (ds.drop i)):=by
 show (if _ then _ else _)=_
 rw [if_pos hs,pq ds i hi]
def ye (a b:List Rat):List Rat:=(a.zip b).map fun p=>p.1+p.2
theorem Ot {a b:List Rat} (h:a.length=b.length):(ye a b).length=a.length:=by simp [ye,h]
theorem xJ {a b:List Rat} (h:a.length=b.length) (j:Nat):(ye a b).getD j 0=a.getD j 0+b.getD j 0:=by
 unfold ye
 rw [List.getD_eq_getElem?_getD,List.getD_eq_getElem?_getD,List.getD_eq_getElem?_getD]
 by_cases hj:j<a.length
 ·have e1:=List.getElem?_eq_getElem hj
  have e2:=List.getElem?_eq_getElem (l:=b) (i:=j) (by omega)
  have e3:(a.zip b)[j]? = some (a[j],b[j]):=List.getElem?_zip_eq_some.mpr ⟨e1,e2⟩
  rw [List.getElem?_map,e3,e1,e2];rfl
 ·rw [List.getElem?_eq_none (by simp;omega),List.getElem?_eq_none (by omega),List.getElem?_eq_none (by omega)]
  show (0:Rat)=0+0
  grind
def Ln.turn (l:Ln):Ln:=⟨l.b,l.a,l.s,l.m⟩
theorem Ul {ls:List Ln} {k:Nat} {l:Ln} (h:ls[k]? = some l):dIx [cB ls,.int (k:Int)]=some l.d:=Qi _ (iu Ln.d h) rfl
theorem Good.of {n:Nat} {ls ms:List Ln} (G:Good n ls) (hl:ms.length=ls.length) (ho:∀ l∈ms,l.Ok n) (hc:∀ c:Nat->Int,(∀ l∈ms,c l.a=c l.b) -> ∀ l∈ls,c l.a=c l.b):Good n ms:=
 ⟨G.n1,G.n4,by rw [hl];exact G.l,ho,(Gf G.n1 ho).mpr fun c h=>G.cn c (hc c h)⟩
theorem Good.turn {n k:Nat} {ls:List Ln} {l:Ln} (G:Good n ls) (hk:ls[k]? = some l):Good n (ls.set k l.turn):=by
 have o:=G.o l (List.mem_of_getElem? hk)
 have hkl:=(List.getElem?_eq_some_iff.mp hk).1
 refine G.of (by simp) (fun l' hl'=>?_) fun c h l' hl'=>?_
 ·rcases List.mem_or_eq_of_mem_set hl' with z | rfl
  ·exact G.o l' z
  ·exact ⟨o.b,o.a,Ne.symm o.ne,o.s,o.m⟩
 ·obtain ⟨i,hi⟩:=List.getElem?_of_mem hl'
  by_cases e:k=i
  ·subst e
   rw [hk] at hi
   cases hi
   exact (h l.turn (List.mem_of_getElem? (List.getElem?_set_self hkl))).symm
  ·exact h l' (List.mem_of_getElem? (by rw [List.getElem?_set_ne e];exact hi))
end Z
namespace Z
open PySem L2 TM
structure Puts (n m:Nat) (ps:List Rat):Prop where
 l:ps.length=n
 b:∀ p∈ps,Bq m p
 z:cj (fun i=>ps.getD i 0) n=0
theorem nM {m n:Nat} {ls:List Ln} {ps hs:List Rat} (G:Good n ls) (P:Puts n m ps) (I:Is n ls ps hs) (hm:m<=20000) {Q:D->Option D->Prop} (h:Q (.lst true ((cP ls hs).map fr)) none):dq [fD n ls,.lst false (ps.map fr)] Q:=
 FN G P.l P.b hm P.z fun hs' I' _=>by rw [I'.one G.cn G.o I];exact h
theorem BR {n:Nat} {ls:List Ln} {hs:List Rat} {i:Nat} (hi:i<n):(lW n ls hs).getD i 0=flow (fun j=>hs.getD j 0) ls i:=by
 unfold lW
 rw [List.getD_eq_getElem?_getD,List.getElem?_map,List.getElem?_range hi];rfl
theorem Iz {n m:Nat} {ls:List Ln} {hs:List Rat} (ho:∀ l∈ls,l.Ok n) (hb:∀ x∈lW n ls hs,Bq m x):Puts n m (lW n ls hs):=
 ⟨by simp [lW],hb,by rw [bQ n fun i hi=>BR hi];exact Ci _ ls ho⟩
theorem Ql {n:Nat} {ls:List Ln} {hs:List Rat} (hl:hs.length=n) (h0:hs.getD 0 0=0):Is n ls (lW n ls hs) hs:=⟨hl,h0,fun i _ hi=>(BR hi).symm⟩
theorem Oq {ls:List Ln} {h1 h2:List Rat} (hh:h1.length=h2.length):cP ls (ye h1 h2)=ye (cP ls h1) (cP ls h2):=by
 unfold cP
 rw [show ye (ls.map fun l=>((l.s:Int):Rat)*(h1.getD l.a 0 - h1.getD l.b 0)) (ls.map fun l=>((l.s:Int):Rat)*(h2.getD l.a 0 - h2.getD l.b 0))=ls.map fun l=>((l.s:Int):Rat)*(h1.getD l.a 0 - h1.getD l.b 0)+((l.s:Int):Rat)*(h2.getD l.a 0 - h2.getD l.b 0) from by unfold ye;rw [List.zip_map',List.map_map];rfl]
 apply List.map_congr_left
 intro l _
 rw [xJ hh,xJ hh];grind
def wj (c:Rat) (a:List Rat):List Rat:=a.map fun u=>c*u
theorem wu (c:Rat) (a:List Rat) (j:Nat):(wj c a).getD j 0=c*a.getD j 0:=by
 unfold wj
 rw [List.getD_eq_getElem?_getD,List.getD_eq_getElem?_getD,List.getElem?_map]
 cases a[j]? with
 | none=>show (0:Rat)=c*0;grind
 | some x=>rfl
theorem Oo (ls:List Ln) (c:Rat) (hs:List Rat):cP ls (wj c hs)=wj c (cP ls hs):=by
 unfold cP
 rw [show wj c (ls.map fun l=>((l.s:Int):Rat)*(hs.getD l.a 0 - hs.getD l.b 0))=ls.map fun l=>c*(((l.s:Int):Rat)*(hs.getD l.a 0 - hs.getD l.b 0)) from by unfold wj;rw [List.map_map];rfl]
 apply List.map_congr_left
 intro l _
 rw [wu,wu];grind
theorem MF (o o':Bool) (xs:List Rat):dNe [.lst o (xs.map fr),.lst o' (xs.map fr)]=some (.bl false):=Bv (MP o xs) (by decide) rfl
end Z
namespace L2
open PySem PySem.Spec PyProof.Rows
def Aq:List AD->Option (List D)
 | []=>some []
 | .val d :: as=>match Aq as with
  | some ds=>some (d :: ds)
  | none=>none
 | .nam _ :: _=>none
section
variable {K:PySem.W.Frag} {F:Addr->Prop} {H:Hp} {σ : St}
theorem RpA.vals:∀ {vs:List V} {as:List AD} {La:List Addr} {ds:List D},RpA K F H σ vs as La->Aq as=some ds->Rps K F H vs ds La
 | _,_,_,_,.nil,e=>by cases e;exact .nil
 | _,_,_,_,.val (d:=d) (as:=as) r rs,e=>by
  simp only [Aq] at e
  cases h:Aq as with
  | none=>rw [h] at e;cases e
  | some ds=>rw [h] at e;cases e;exact .cons r (RpA.vals rs h)
 | _,_,_,_,.nam _ _,e=>by cases e
end
end L2
namespace L2
open PySem PySem.Spec PyProof.Rows
end L2
namespace L2
open PySem PySem.Spec PyProof.Rows
def D.strs:List D->Option (List Str)
 | []=>some []
 | .str x :: ds=>(D.strs ds).map (x :: ·)
 | _ :: _=>none
theorem Rps.strs {K:PySem.W.Frag} {F:Addr->Prop} {H:Hp}:∀ {vs:List V} {ds:List D} {L:List Addr} {xs:List Str},Rps K F H vs ds L->D.strs ds=some xs->vs=xs.map V.str
 | _,_,_,_,.nil,e=>by cases e;rfl
 | _,_,_,_,.cons (d:=d) (ds:=ds) r rs,e=>by
  cases d with
  | str x=>
   obtain ⟨ys,e1,rfl⟩:=Option.map_eq_some_iff.mp e
   rw [r.isStr,Rps.strs rs e1];rfl
  | _=>cases e
theorem Oh {X:Cx} {kp:Nat->Bool} {sts:List Stmt}:SL X kp sts lQ:=fun pins s σ H D I h=>by
 obtain ⟨F,ρ,Ls,R,E,w,q,p⟩:=h
 exact q.elim
end L2
namespace L2
open PySem PySem.Spec PyProof.Rows
section
variable {X:Cx} {kp:Nat->Bool}
end
end L2
namespace L2
open PySem PySem.Spec PyProof.Rows
section
variable {prog:Program} {w:World} {A:Around} {R:Result->Shared->Prop} {s:Shared}
abbrev two (elt tg iter:Expr) (ifs:List Expr) (tg1 iter1:Expr) (ifs1:List Expr) (scope:Scope) (pos:Pos):Expr:=.ListComp elt [⟨tg,iter,ifs,0⟩,⟨tg1,iter1,ifs1,0⟩] scope pos
end
section
variable {X:Cx} {pins:List (Addr×Obj)} {σ : St} {H₂ : Hp} {s₂ : Shared} {scope:Scope} {own:List Str} {fr:List Nat} {cl:List (Str×Addr)} {fp:List Addr}
 {tg elt iter tg1 iter1:Expr} {ifs ifs1:List Expr} {pos:Pos} {J:It} {it:Addr} {tn:Nat->Heap->Prop} {g g1:TG} {tt tt1:TT} {te:TE} {wi1:TI} {RR:Value->Addr->Result->Shared->Prop} {E:Value->Shared->Prop} {Fin:List V->Hp->Prop}
end
end L2
namespace L2
open PySem PySem.Spec PyProof.Rows
section
variable {X:Cx} {pins:List (Addr×Obj)} {σ : St} {H₂ : Hp} {s₂ : Shared} {scope:Scope} {own:List Str} {fr:List Nat} {cl:List (Str×Addr)} {fp:List Addr}
 {tg elt iter tg1 iter1:Expr} {ifs ifs1:List Expr} {pos:Pos} {J:It} {it:Addr} {tn:Nat->Heap->Prop} {g g1:TG} {tt tt1:TT} {te:TE} {wi1:TI} {RR:Value->Addr->Result->Shared->Prop} {E:Value->Shared->Prop} {Fin:List V->Hp->Prop}
end
end L2
namespace L2
open PySem PySem.Spec PyProof.Rows
section
variable {X:Cx} {scope:Scope} {own:List Str} {fr:List Nat} {tg elt iter tg1 iter1:Expr} {ifs ifs1:List Expr} {pos:Pos} {wi wi1:TI} {g g1:TG} {tt tt1:TT} {te:TE}
end
theorem Step.back {F F1:Addr->Prop} {H H1:Hp} {Ls Ls1:Nat->List Addr} {Ld1:List Addr} (s1:Step F H Ls F1 H1 Ls1 Ld1) {a:Addr} (h:(∃ j,a∈Ls1 j)∨H1 a=none):(∃ j,a∈Ls j)∨H a=none:=by
 rcases h with ⟨j,h⟩ | h
 ·exact s1.src j a h
 ·by_cases e:∃ j,a∈Ls j
  ·exact .inl e
  ·cases q:H a with
   | none=>exact .inr rfl
   | some o=>rw [s1.keep a o q fun i z=>e ⟨i,z⟩] at h;cases h
section
variable {X:Cx} {scope:Scope} {own:List Str} {fr:List Nat} {tg elt iter tg1 iter1:Expr} {ifs ifs1:List Expr} {pos:Pos} {si si1:qd} {g g1:fX} {t t1:fB} {el:bU}
end
end L2
namespace L2
open PySem PySem.Spec PyProof.Rows
section
variable {X:Cx}
end
end L2
namespace L2
open PySem PySem.Spec PyProof.Rows
end L2
namespace HT
open PySem PySem.Spec PyProof.Rows L2 Builtin
end HT
namespace L2
open PySem PySem.Spec PyProof.Rows
end L2
namespace L2
open PySem PySem.Spec PyProof.Rows
end L2
namespace L2
open PySem PySem.Spec PyProof.Rows
section
variable (ρ : En) (Q:D->En->Prop)
end
end L2
namespace L2
end L2
namespace L2
open PySem PySem.Spec PyProof.Rows
def notStar:Expr->Bool
 | .Starred .. => false
 | _=>true
theorem Sd {e:Expr} (h:notStar e=true) (es:List Expr) (env:Env):starEach (e :: es) env=(false,eval e env) :: starEach es env:=by
 cases e <;> first | rfl | (simp [notStar] at h)
structure SAs (X:Cx) (es:List Expr) (os:List Opd):Prop where
 h:SA X es os
theorem nG {X:Cx}:SAs X [] []:=⟨ao⟩
theorem dY {X:Cx} {e:Expr} {es:List Expr} {o:Opd} {os:List Opd} (hn:notStar e=true) (h:SO X e o) (hs:SAs X es os):SAs X (e :: es) (o :: os):=⟨aj h hs.h (Sd hn es X.env)⟩
theorem uL {X:Cx} {es:List Expr} {os:List Opd} {pos:Pos} (h:SAs X es os):SE X (.List es pos) (fH os):=gf h.h
structure SEs (X:Cx) (e:Expr) (s:bU):Prop where
 h:SE X e s
theorem Ad {X:Cx} {es:List Expr} {os:List Opd} {pos:Pos} {x1} (h:SAs X es os):SEs X (.Tuple es x1 pos) (gH os):=⟨fJ h.h⟩
theorem tB {X:Cx} {e:Expr} {es:List Expr} {s:bU} {os:List Opd} (hn:notStar e=true) (h:SEs X e s) (hs:SAs X es os):SAs X (e :: es) (.val s :: os):=dY hn (aa h.h) hs
end L2
namespace L2
open PySem PySem.Spec PyProof.Rows
def Xg (n m:Nat) (h h':Heap):Prop:=∀ b o,b≠n+m+2->b≠n+m+1->(∀ j,j<m->b≠n+j)->h.get? b=some o->h'.get? b=some o
theorem nD {n j q:Nat} (h:q≠j):n+q≠n+j:=by omega
theorem SSq.kept {t:Bool} {h h':Heap} {a:Addr} {xs:Array Value} (x:SSq t h a xs) (y:∀ o,h.get? a=some o->h'.get? a=some o):SSq t h' a xs:=by
 cases t with
 | true=>obtain ⟨o,e,r⟩:=x;exact ⟨o,y o e,r⟩
 | false=>obtain ⟨o,e,r⟩:=x;exact ⟨o,y o e,r⟩
section
variable {prog:Program} {w:World} {A:Around} {E:Value->Shared->Prop} {s:Shared}
end
end L2
namespace L2
open PySem PySem.Spec PyProof.Rows
section
variable {prog:Program} {w:World} {A:Around} {E:Value->Shared->Prop} {s:Shared}
end
end L2
namespace L2
open PySem PySem.Spec PyProof.Rows
def fpN (n m:Nat):List Addr:=(n+m+2) :: (n+m) :: (n+m+1) :: (List.range m).map fun j=>n+j
theorem Xo (n m:Nat):n+m+2∈fpN n m:=List.mem_cons_self
theorem Xn (n m:Nat):n+m+1∈fpN n m:=List.mem_cons_of_mem _ (List.mem_cons_of_mem _ List.mem_cons_self)
theorem Xp {n m j:Nat} (h:j<m):n+j∈fpN n m:=List.mem_cons_of_mem _ (List.mem_cons_of_mem _ (List.mem_cons_of_mem _ (List.mem_map.mpr ⟨j,List.mem_range.mpr h,rfl⟩)))
theorem Xg.off {n m:Nat} {h h':Heap} (k:Xg n m h h') {b:Addr} {o:Obj} (hb:b ∉ fpN n m) (e:h.get? b=some o):h'.get? b=some o:=
 k b o (fun z=>hb (z ▸ Xo n m)) (fun z=>hb (z ▸ Xn n m)) (fun j hj z=>hb (z ▸ Xp hj)) e
end L2
namespace L2
open PySem PySem.Spec PyProof.Rows
structure ZipOk (m:Nat):Prop where
 a:∀ us:List Value,us.length=m->checkTypeCall "zip" ⟨us,[]⟩=pure ()
 b:∀ us:List Value,us.length=m->checkBuiltinCall "zip.__new__" ⟨.type "zip" :: us,[]⟩=pure ()
 c:∀ (us:List Value) (obj:Value),us.length=m->argsOk "object.__init__" ⟨obj :: us,[]⟩
 p:0<m
 s:m<=sizeLine
end L2
namespace L2
open PySem PySem.Spec PyProof.Rows
end L2
namespace L2
open PySem PySem.Spec PyProof.Rows
end L2
namespace L2
open PySem PySem.Spec PyProof.Rows
end L2
namespace Z
open PySem L2
def mD:dg:=fnS 3 1 false
 (aR (bK 3 (cO (cZ (.val (aW 0 (.val (sC (.int 0)))))) 1 [] (gN 0) (fu) (gH [.val (sC (.int 0)),.val (sC (.int 1))])))
 (aR (jV 3 (aV 2 qu [.val (aW 3 (.nam 1)),.val (gH [.val (sC (.int 1)),.val (sC (.int 1))])]) (.nam 1))
 (aR (jV 3 (aV 2 jF [.val (aW 3 (.nam 2)),.val (gH [.val (sC (.int 1)),.val (sC (.int 1))])]) (.nam 2))
 (cT (aV 2 dq [.nam 0,.nam 3])))))
def aU:Nat->dg
 | 0=>fnS 1 3 false lQ
 | m+1=>fnS 1 3 false
   (aR (sIf (tB' (sDo dEq [.nam 0,.val (fH [])]))
   (cT (sC (.int 1)))
   (eO))
   (aR (bK 1 (sC (.int 0)))
   (aR (il (cZ (.val (sDo lL [.nam 0]))) (gN 2)
   (aR (bK 3 (cO (gq (sDo cI [.val (iQ (.nam 0) (.nam 2)),.val (dX (.nam 0) (.val (sDo cI [.nam 2,.val (sC (.int 1))])))])) 1 [] (gN 0) (fu) (dX (.nam 0) (.val (sC (.int 1))))))
   (bK 1 (sDo cI [.nam 1,.val (sDo dH [.val (sDo dH [.val (sDo dIx [.val (fH [.val (sC (.int 1)),.val (sDo vg [.val (sC (.int 1))])]),.val (sDo kW [.nam 2,.val (sC (.int 2))])]),.val (sDo dIx [.val (aW 0 (.nam 2)),.val (sC (.int 0))])]),.val (aV 1 (aU m) [.nam 3])])]))))
   (nU 1))))
def cL:dg:=fnS 2 13 false
 (aR (Jv (gT [gN 2,gN 3]) (cC 0))
 (aR (bK 4 (sC (.int 1)))
 (aR (il (gq (cC 1)) (gN 5)
 (bK 4 (sDo lV [.val (sDo dH [.nam 4,.val (aW 5 (.val (sC (.int 1))))]),.val (aV 2 eY [.nam 4,.val (aW 5 (.val (sC (.int 1))))])])))
 (aR (bK 6 (cO (cZ (.nam 2)) 1 [2] (gN 0) (fu) (sDo dH [.val (fH [.val (sC (.int 0))]),.nam 1])))
 (aR (il (gq (cC 3)) (gT [gN 7,gN 8,gN 9,gN 10])
 (aR (jU (fun i j=>i+j) 6 7 7 9)
 (aR (jU (fun i j=>i+j) 6 8 8 9)
 (aR (jU (fun i j=>i - j) 6 7 8 9)
 (jU (fun i j=>i - j) 6 8 7 9)))))
 (aR (bK 6 (cO (gq (dX (.val (cC 6)) (.val (sC (.int 1))))) 1 [] (gN 0) (fu) (dX (.nam 0) (.val (sC (.int 1))))))
 (aR (bK 11 (cO (gq (dX (.nam 1) (.val (sC (.int 1))))) 1 [4] (gN 0) (fu) (sDo dH [.val (aW 0 (.val (sC (.int 0)))),.val (sDo lV [.nam 1,.val (aW 0 (.val (sC (.int 1))))])])))
 (aR (bK 12 (fH [.val (sC (.int 0))]))
 (aR (il (cZ (.val (sDo pN [.nam 2,.val (sC (.int 1))]))) (gN 13)
 (iM (lO gh 12 [.val (aV 1 (aU 4) [.val (cO (pZ (cC 6) (cC 11)) 2 [13] (gT [gN 0,gN 1]) (fu) (sDo cI [.val (sDo cI [.val (iQ (.nam 0) (.nam 2)),.val (fH [.val (cC 1)])]),.val (dX (.nam 0) (.val (sDo cI [.nam 2,.val (sC (.int 1))])))]))])])))
 (aR (bK 14 (sDo dH [.val (aV 1 (aU 4) [.nam 6]),.nam 4]))
 (cT (cO (gq (cC 3)) 1 [12,14] (gN 0) (fu) (aV 2 bR [.val (sDo dH [.val (aW 0 (.val (sC (.int 2)))),.val (sDo pN [.val (aW 1 (.val (aW 0 (.val (sC (.int 0)))))),.val (aW 1 (.val (aW 0 (.val (sC (.int 1))))))])]),.nam 2])))))))))))))
end Z
namespace Z
open PySem L2 TM
def rZ (r:List Int):D:=.lst false (r.map D.int)
def mZ (t:List (List Int)):D:=.lst false (t.map rZ)
def dt:List (List Int)->Int
 | []=>1
 | [[a]]=>a
 | [[a,b],[c,d]]=>a*d - c*b
 | [[a,b,c],[d,e,f],[g,h,i]]=>a*(e*i - h*f) - d*(b*i - h*c)+g*(b*f - e*c)
 | _=>0
theorem XF (r:List Int):Ok 1 (rZ r):=wK (qZ D.int (fun i=>zM 0 i) r)
theorem XD (t:List (List Int)):Ok 2 (mZ t):=wK (qZ rZ XF t)
theorem Qm {r:List Int} {t:List (List Int)}:dEq [.lst false (rZ r :: t.map rZ),.lst true []]=some (.bl false):=by
 have h:dO (mZ (r :: t))=true:=pL (XD (r :: t)) (by decide)
 have h2:dO (.lst true [])=true:=pL (n:=1) (wK (zP 0)) (by decide)
 show (if (dO (mZ (r :: t))&&dO (.lst true []))=true then some (D.bl (PyData.eqv (mZ (r :: t)).dat (D.lst true []).dat)) else none)=_
 rw [h,h2]
 have e:PyData.eqv (mZ (r :: t)).dat (D.lst true []).dat=false:=by
  show PyData.eqv (.list (D.dats (rZ r :: t.map rZ))) (.list [])=false
  rw [D.dats]
  simp [PyData.eqv,PyData.eqvAll]
 rw [e];rfl
theorem Do (r:List Int):(rZ r).sh=true:=by show (!false&&D.shs _)=true;rw [dN];rfl
theorem nJ (t:List (List Int)):D.shs (t.map rZ)=true:=gm rZ Do t
theorem zm (t:List (List Int)):D.fzs (t.map rZ)=t.map rZ:=D.shs_fz _ (nJ t)
def xK (m:Nat):cD:=(aR (bK 3 (cO (gq (sDo cI [.val (iQ (.nam 0) (.nam 2)),.val (dX (.nam 0) (.val (sDo cI [.nam 2,.val (sC (.int 1))])))])) 1 [] (gN 0) (fu) (dX (.nam 0) (.val (sC (.int 1))))))
     (bK 1 (sDo cI [.nam 1,.val (sDo dH [.val (sDo dH [.val (sDo dIx [.val (fH [.val (sC (.int 1)),.val (sDo vg [.val (sC (.int 1))])]),.val (sDo kW [.nam 2,.val (sC (.int 2))])]),.val (sDo dIx [.val (aW 0 (.nam 2)),.val (sC (.int 0))])]),.val (aV 1 (aU m) [.nam 3])])])))
theorem size_eq (m:Nat):aU (m+1)=fnS 1 3 false
 (aR (sIf (tB' (sDo dEq [.nam 0,.val (fH [])])) (cT (sC (.int 1))) (eO))
 (aR (bK 1 (sC (.int 0)))
 (aR (il (cZ (.val (sDo lL [.nam 0]))) (gN 2) (xK m))
 (nU 1)))):=by
 rw [aU];unfold xK;with_reducible rfl
theorem jL {m k b:Nat} {rows:List (List Int)} {r:List Int} {a tot d sg:Int} (hk:rows[k]? = some (a :: r)) (hl:rows.length<=3) (hne:∀ q∈rows,q.length<=3∧1<=q.length) (hb:b<=1000000)
  (hs:dIx [.lst true [.int 1,.int (-1)],.int ((k:Int).fmod 2)]=some (.int sg)) (hsg:sg.natAbs=1) (ha:Bd b a) (hd:Bd (2*b+4) d)
  (hdet:∀ {Q:D->Option D->Prop},Q (.int d) none->aU m [.lst false (((rows.eraseIdx k).map List.tail).map rZ)] Q) {x:Option D} {E:EndD}
  (hE:∀ x,E.nx [some (.lst false (rows.map rZ)),some (.int (tot+sg*a*d)),some (.int (k:Int)),x]):xK m [some (.lst false (rows.map rZ)),some (.int tot),some (.int (k:Int)),x] E:=by
 have hkl:k<rows.length:=(List.getElem?_eq_some_iff.mp hk).1
 have t1:=uM false (rows.map rZ) (i:=k) (nJ rows) (by rw [List.length_map];omega)
 have t2:=iD false (rows.map rZ) (i:=k+1) (nJ rows) (by rw [List.length_map];omega)
 have ec:(k:Int)+1=((k+1:Nat):Int):=by omega
 have t3:cI [.lst true ((rows.map rZ).take k),.lst true ((rows.map rZ).drop (k+1))]=some (.lst true ((rows.eraseIdx k).map rZ)):=by
  rw [← List.map_take,← List.map_drop,iH _ _ _ _ (by rw [sizeLine_eq,List.length_map,List.length_map,List.length_take,List.length_drop];omega) (nJ _) (nJ _),← List.map_append,← List.eraseIdx_eq_take_drop_succ]
 have lr:(rows.eraseIdx k).length<=3:=by rw [List.length_eraseIdx];split <;> omega
 have i0:ixF (.lst false (rows.map rZ)) (k:Int)=some (rZ (a :: r),none):=ji _ _ (iu rZ hk) (Do _)
 have h0:dIx [rZ (a :: r),.int 0]=some (.int a):=qF ((a :: r).map D.int) false (mO (j:=0) (v:=D.int a) rfl) rfl
 have c1:iw sg a=true:=cb (m:=1) (n:=b) (iY (m:=2) (by omega) (by decide)) ha (by omega)
 have b2:Bd (1+b) (sg*a):=Bd.mul (iY (m:=2) (by omega) (by decide)) ha
 have c2:iw (sg*a) d=true:=cb b2 hd (by omega)
 have hsg2:(2:Int)≠0:=by decide
 dsimp? only [xK,↓iQ,↓dX,t1,ec,t2,t3,zm,nJ,List.length_map]
 refine bC (by omega) ?_
 dsimp? only
 refine bY rZ (fun r=>D.lst true (r.tail.map D.int)) (fun ρ => ∃ z,ρ = [z]) ⟨_,rfl⟩ ?_ ?_
 ·rintro q hq ρ ⟨z,rfl⟩ P hP
  have hq':=hne q (List.mem_of_mem_eraseIdx hq)
  have s1:qH (rZ q) (some 1) none=some (.lst true (q.tail.map D.int)):=by
   have:=iD false (q.map D.int) (i:=1) (dN q) (by rw [List.length_map];omega)
   rw [← List.map_drop,List.drop_one] at this
   exact this
  dsimp? only [↓dX,s1,Do]
  exact hP _ ⟨_,rfl⟩
 rintro ρ ⟨z,rfl⟩
 have ef:D.fzs ((rows.eraseIdx k).map fun r=>D.lst true (r.tail.map D.int))=((rows.eraseIdx k).map List.tail).map rZ:=by
  rw [D.fzs_eq,List.map_map,List.map_map]
  apply List.map_congr_left
  intro q _
  show D.lst false (D.fzs (q.tail.map D.int))=_
  rw [gw];rfl
 dsimp? only [wb,hsg2,hs,i0,h0,c1,Do,ef]
 refine hdet ?_
 dsimp? only [wb,c2]
 exact hE _
theorem Ur {g:fX} {b:cD} {ρ : En} {E:EndD} (h:E.nx ρ):forL g b [] ρ E:=h
theorem IV {g:fX} {b:cD} {d1:D} {ds:List D} {ρ : En} {E:EndD} (h:g d1 ρ fun ρ1=>b ρ1 ⟨fun ρ4=>forL g b ds ρ4 E,E.rt,E.nx,fun ρ4=>forL g b ds ρ4 E⟩):forL g b (d1 :: ds) ρ E:=h
theorem Bd.up {m n:Nat} {i:Int} (h:Bd m i) (k:m<=n):Bd n i:=Nat.lt_of_lt_of_le h (Nat.pow_le_pow_right (by decide) k)
theorem sg0:dIx [.lst true [.int 1,.int (-1)],.int (((0:Nat):Int).fmod 2)]=some (.int 1):=rfl
theorem sg1:dIx [.lst true [.int 1,.int (-1)],.int (((1:Nat):Int).fmod 2)]=some (.int (-1)):=rfl
theorem sg2:dIx [.lst true [.int 1,.int (-1)],.int (((2:Nat):Int).fmod 2)]=some (.int 1):=rfl
theorem tH {m:Nat} {r:List Int} {t:List (List Int)} (hl:t.length<=2) {Q:D->Option D->Prop}
  (h:forL (gN 2) (xK m) (pQ 0 (t.length+1)) [some (.lst false ((r :: t).map rZ)),some (.int 0),none,none] ⟨fun ρ => nU 1 ρ ⟨fun ρ => Q .non none,fun d ρ => Q d none,fun _=>False,fun _=>False⟩,fun d ρ => Q d none,fun _=>False,fun _=>False⟩):aU (m+1) [.lst false ((r :: t).map rZ)] Q:=by
 have p62:(2:Int) ^ 62=4611686018427387904:=by decide
 have e:dEq [.lst false ((r :: t).map rZ),.lst true []]=some (.bl false):=Qm
 have el:(((r :: t).map rZ).length:Int)=((t.length+1:Nat):Int):=by rw [List.length_map];rfl
 generalize hz:(r :: t).map rZ=zs at *
 rw [size_eq]
 dsimp? only [e,p62,el]
 refine bC ⟨by omega,by omega,by omega⟩ ?_
 dsimp? only
 exact h
theorem TQ (m:Nat) {Q:D->Option D->Prop} (h:Q (.int 1) none):aU (m+1) [.lst false []] Q:=by
 have e:dEq [.lst false [],.lst true []]=some (.bl true):=rfl
 rw [size_eq]
 dsimp? only [e]
 exact h
theorem Oe {m b:Nat} {a:Int} (hb:b<=1000000) (ha:Bd b a) {Q:D->Option D->Prop} (h:Q (.int a) none):aU (m+2) [.lst false ([[a]].map rZ)] Q:=by
 refine tH (t:=[]) (by simp) ?_
 refine IV ?_
 dsimp? only
 refine jL (rows:=[[a]]) (r:=[]) (k:=0) (b:=b) (d:=1) rfl (by simp) (fun q hq=>by rw [List.mem_singleton.mp hq];simp) hb sg0 rfl ha (show 1<2 ^ (2*b+4) from Nat.one_lt_two_pow (by omega)) (fun q=>TQ m q) fun x=>?_
 dsimp? only
 refine Ur ?_
 dsimp? only
 rw [show (0:Int)+1*a*1=a by omega]
 exact h
theorem HW {m b:Nat} {a b' c d:Int} (hb:b<=1000000) (ha:Bd b a) (hb':Bd b b') (hc:Bd b c) (hd:Bd b d) {Q:D->Option D->Prop} (h:Q (.int (a*d - c*b')) none):aU (m+3) [.lst false ([[a,b'],[c,d]].map rZ)] Q:=by
 have hne:∀ q∈[[a,b'],[c,d]],q.length<=3∧1<=q.length:=fun q hq=>by
  rcases List.mem_cons.mp hq with rfl | hq
  ·simp
  ·rw [List.mem_singleton.mp hq];simp
 refine tH (t:=[[c,d]]) (by simp) ?_
 refine IV ?_
 dsimp? only
 refine jL (rows:=[[a,b'],[c,d]]) (r:=[b']) (k:=0) (b:=b) (d:=d) rfl (by simp) hne hb sg0 rfl ha (hd.up (by omega)) (fun q=>Oe hb hd q) fun x=>?_
 dsimp? only [Int.zero_add]
 refine IV ?_
 dsimp? only
 refine jL (rows:=[[a,b'],[c,d]]) (r:=[d]) (k:=1) (b:=b) (d:=b') rfl (by simp) hne hb sg1 rfl hc (hb'.up (by omega)) (fun q=>Oe hb hb' q) fun x=>?_
 dsimp? only
 refine Ur ?_
 dsimp? only
 rw [show 1*a*d + -1*c*b'=a*d - c*b' by grind]
 exact h
theorem Yu {m b:Nat} {a b' c d e f g h' i:Int} (hb:b<=1000000) (ha:Bd b a) (hb':Bd b b') (hc:Bd b c) (hd:Bd b d) (he:Bd b e) (hf:Bd b f) (hg:Bd b g) (hh:Bd b h') (hi:Bd b i) {Q:D->Option D->Prop}
  (h:Q (.int (a*(e*i - h'*f) - d*(b'*i - h'*c)+g*(b'*f - e*c))) none):aU (m+4) [.lst false ([[a,b',c],[d,e,f],[g,h',i]].map rZ)] Q:=by
 have hne:∀ q∈[[a,b',c],[d,e,f],[g,h',i]],q.length<=3∧1<=q.length:=fun q hq=>by
  rcases List.mem_cons.mp hq with rfl | hq
  ·simp
  ·rcases List.mem_cons.mp hq with rfl | hq
   ·simp
   ·rw [List.mem_singleton.mp hq];simp
 have bd2:∀ {p q r s:Int},Bd b p->Bd b q->Bd b r->Bd b s->Bd (2*b+4) (p*q - r*s):=fun hp hq hr hs=>(Bd.sub (hp.mul hq) (hr.mul hs)).up (by omega)
 refine tH (t:=[[d,e,f],[g,h',i]]) (by simp) ?_
 refine IV ?_
 dsimp? only
 refine jL (rows:=[[a,b',c],[d,e,f],[g,h',i]]) (r:=[b',c]) (k:=0) (b:=b) (d:=e*i - h'*f) rfl (by simp) hne hb sg0 rfl ha (bd2 he hi hh hf) (fun q=>HW hb he hf hh hi q) fun x=>?_
 dsimp? only [Int.zero_add]
 refine IV ?_
 dsimp? only
 refine jL (rows:=[[a,b',c],[d,e,f],[g,h',i]]) (r:=[e,f]) (k:=1) (b:=b) (d:=b'*i - h'*c) rfl (by simp) hne hb sg1 rfl hd (bd2 hb' hi hh hc) (fun q=>HW hb hb' hc hh hi q) fun x=>?_
 dsimp? only [Int.zero_add]
 refine IV ?_
 dsimp? only
 refine jL (rows:=[[a,b',c],[d,e,f],[g,h',i]]) (r:=[h',i]) (k:=2) (b:=b) (d:=b'*f - e*c) rfl (by simp) hne hb sg2 rfl hg (bd2 hb' hf he hc) (fun q=>HW hb hb' hc he hf q) fun x=>?_
 dsimp? only
 refine Ur ?_
 dsimp? only
 rw [show 1*a*(e*i - h'*f) + -1*d*(b'*i - h'*c)+1*g*(b'*f - e*c)=a*(e*i - h'*f) - d*(b'*i - h'*c)+g*(b'*f - e*c) by grind]
 exact h
end Z
namespace Z
open PySem L2 TM
theorem cr2 (a b c d r s:Rat):a*(r*d - s*b)+b*(a*s - c*r)=(a*d - c*b)*r∧c*(r*d - s*b)+d*(a*s - c*r)=(a*d - c*b)*s:=by constructor <;> grind
def d3 (a b c d e f g h i:Rat):Rat:=a*(e*i - h*f) - d*(b*i - h*c)+g*(b*f - e*c)
theorem cr3 (a b c d e f g h i r s t:Rat):a*d3 r b c s e f t h i+b*d3 a r c d s f g t i+c*d3 a b r d e s g h t=d3 a b c d e f g h i*r∧d*d3 r b c s e f t h i+e*d3 a r c d s f g t i+f*d3 a b r d e s g h t=d3 a b c d e f g h i*s∧g*d3 r b c s e f t h i+h*d3 a r c d s f g t i+i*d3 a b r d e s g h t=d3 a b c d e f g h i*t:=by
 unfold d3
 refine ⟨?_,?_,?_⟩ <;> grind
theorem nz2 {a b c d:Rat} (H:∀ x y:Rat,a*x+b*y=0->c*x+d*y=0->x=0∧y=0):a*d - c*b≠0:=fun z=>by
 obtain ⟨h1,h2⟩:=H d (-c) (by grind) (by grind)
 obtain ⟨h3,h4⟩:=H b (-a) (by grind) (by grind)
 obtain ⟨h5,_⟩:=H 1 0 (by grind) (by grind)
 grind
theorem NQ {a b c d e f g h i:Rat} (H:∀ x y z:Rat,a*x+b*y+c*z=0->d*x+e*y+f*z=0->g*x+h*y+i*z=0->x=0∧y=0∧z=0)
  (m1:a*e=b*d) (m2:a*f=c*d) (m4:a*h=b*g) (m5:a*i=c*g):a=0∧b=0∧c=0:=by
 obtain ⟨h1,h2,_⟩:=H b (-a) 0 (by grind) (by grind) (by grind)
 obtain ⟨h3,_,_⟩:=H c 0 (-a) (by grind) (by grind) (by grind)
 exact ⟨by grind,h1,h3⟩
theorem nz3 {a b c d e f g h i:Rat} (H:∀ x y z:Rat,a*x+b*y+c*z=0->d*x+e*y+f*z=0->g*x+h*y+i*z=0->x=0∧y=0∧z=0):d3 a b c d e f g h i≠0:=fun zz=>by
 have K:∀ r s t:Rat,d3 r b c s e f t h i=0∧d3 a r c d s f g t i=0∧d3 a b r d e s g h t=0:=fun r s t=>by
  obtain ⟨e1,e2,e3⟩:=cr3 a b c d e f g h i r s t
  rw [zz] at e1 e2 e3
  exact H _ _ _ (by grind) (by grind) (by grind)
 have k1:=K 1 0 0
 have k2:=K 0 1 0
 have k3:=K 0 0 1
 unfold d3 at k1 k2 k3
 obtain ⟨p1,p2,p3⟩:=k1
 obtain ⟨q1,q2,q3⟩:=k2
 obtain ⟨r1,r2,r3⟩:=k3
 obtain ⟨ha,hb,hc⟩:=NQ H (by grind) (by grind) (by grind) (by grind)
 have H2:∀ x y z:Rat,d*x+e*y+f*z=0->a*x+b*y+c*z=0->g*x+h*y+i*z=0->x=0∧y=0∧z=0:=fun x y z u v w=>H x y z v u w
 obtain ⟨hd,he,hf⟩:=NQ H2 (by grind) (by grind) (by grind) (by grind)
 have H3:∀ x y z:Rat,g*x+h*y+i*z=0->d*x+e*y+f*z=0->a*x+b*y+c*z=0->x=0∧y=0∧z=0:=fun x y z u v w=>H x y z w v u
 obtain ⟨hg,hh,hi⟩:=NQ H3 (by grind) (by grind) (by grind) (by grind)
 obtain ⟨h1,_,_⟩:=H 1 0 0 (by grind) (by grind) (by grind)
 grind
end Z
namespace Z
open PySem L2 TM
theorem wN {α : Type} {l:List α} (h:l.length=1):∃ a,l=[a]:=List.length_eq_one_iff.mp h
theorem qz {α : Type} {l:List α} (h:l.length=2):∃ a b,l=[a,b]:=by
 rcases l with _ | ⟨a,_ | ⟨b,_ | ⟨c,r⟩⟩⟩ <;> simp at h
 exact ⟨a,b,rfl⟩
theorem iW {α : Type} {l:List α} (h:l.length=3):∃ a b c,l=[a,b,c]:=by
 rcases l with _ | ⟨a,_ | ⟨b,_ | ⟨c,_ | ⟨d,r⟩⟩⟩⟩ <;> simp at h
 exact ⟨a,b,c,rfl⟩
theorem HX {k b:Nat} {t:List (List Int)} (hk:k<=3) (ht:t.length=k) (hr:∀ r∈t,r.length=k) (hb:b<=1000000) (hx:∀ r∈t,∀ x∈r,Bd b x) {Q:D->Option D->Prop} (h:Q (.int (dt t)) none):aU 4 [.lst false (t.map rZ)] Q:=by
 rcases (show k=0∨k=1∨k=2∨k=3 by omega) with rfl | rfl | rfl | rfl
 ·rw [List.length_eq_zero_iff.mp ht] at h ⊢
  exact TQ 3 h
 ·obtain ⟨r,rfl⟩:=wN ht
  obtain ⟨a,rfl⟩:=wN (hr r (by simp))
  exact Oe (m:=2) hb (hx [a] (by simp) a (by simp)) h
 ·obtain ⟨r,s,rfl⟩:=qz ht
  obtain ⟨a,b',rfl⟩:=qz (hr r (by simp))
  obtain ⟨c,d,rfl⟩:=qz (hr s (by simp))
  have h1:=hx [a,b'] (by simp)
  have h2:=hx [c,d] (by simp)
  exact HW (m:=1) hb (h1 a (by simp)) (h1 b' (by simp)) (h2 c (by simp)) (h2 d (by simp)) h
 ·obtain ⟨r,s,u,rfl⟩:=iW ht
  obtain ⟨a,b',c,rfl⟩:=iW (hr r (by simp))
  obtain ⟨d,e,f,rfl⟩:=iW (hr s (by simp))
  obtain ⟨g,h',i,rfl⟩:=iW (hr u (by simp))
  have h1:=hx [a,b',c] (by simp)
  have h2:=hx [d,e,f] (by simp)
  have h3:=hx [g,h',i] (by simp)
  exact Yu (m:=0) hb (h1 a (by simp)) (h1 b' (by simp)) (h1 c (by simp)) (h2 d (by simp)) (h2 e (by simp)) (h2 f (by simp)) (h3 g (by simp)) (h3 h' (by simp)) (h3 i (by simp)) h
theorem Gr {k b:Nat} {t:List (List Int)} (hk:k<=3) (ht:t.length=k) (hr:∀ r∈t,r.length=k) (hx:∀ r∈t,∀ x∈r,Bd b x):Bd (3*b+4) (dt t):=by
 rcases (show k=0∨k=1∨k=2∨k=3 by omega) with rfl | rfl | rfl | rfl
 ·rw [List.length_eq_zero_iff.mp ht]
  show 1<2 ^ (3*b+4)
  exact Nat.one_lt_two_pow (by omega)
 ·obtain ⟨r,rfl⟩:=wN ht
  obtain ⟨a,rfl⟩:=wN (hr r (by simp))
  exact (hx [a] (by simp) a (by simp)).up (by omega)
 ·obtain ⟨r,s,rfl⟩:=qz ht
  obtain ⟨a,b',rfl⟩:=qz (hr r (by simp))
  obtain ⟨c,d,rfl⟩:=qz (hr s (by simp))
  have h1:=hx [a,b'] (by simp)
  have h2:=hx [c,d] (by simp)
  exact (Bd.sub ((h1 a (by simp)).mul (h2 d (by simp))) ((h2 c (by simp)).mul (h1 b' (by simp)))).up (by omega)
 ·obtain ⟨r,s,u,rfl⟩:=iW ht
  obtain ⟨a,b',c,rfl⟩:=iW (hr r (by simp))
  obtain ⟨d,e,f,rfl⟩:=iW (hr s (by simp))
  obtain ⟨g,h',i,rfl⟩:=iW (hr u (by simp))
  have h1:=hx [a,b',c] (by simp)
  have h2:=hx [d,e,f] (by simp)
  have h3:=hx [g,h',i] (by simp)
  have bd2:∀ {p q r s:Int},Bd b p->Bd b q->Bd b r->Bd b s->Bd (b+b+1) (p*q - r*s):=fun hp hq hr hs=>Bd.sub (hp.mul hq) (hr.mul hs)
  have m1:=(h1 a (by simp)).mul (bd2 (h2 e (by simp)) (h3 i (by simp)) (h3 h' (by simp)) (h2 f (by simp)))
  have m2:=(h2 d (by simp)).mul (bd2 (h1 b' (by simp)) (h3 i (by simp)) (h3 h' (by simp)) (h1 c (by simp)))
  have m3:=(h3 g (by simp)).mul (bd2 (h1 b' (by simp)) (h2 f (by simp)) (h2 e (by simp)) (h1 c (by simp)))
  exact (Bd.add (Bd.sub m1 m2) (m3.up (Nat.le_succ _))).up (by omega)
def rpl (t:List (List Int)) (rs:List Int) (j:Nat):List (List Int):=(t.zip rs).map fun p=>p.1.take j++[p.2]++p.1.drop (j+1)
theorem zW {k:Nat} {t:List (List Int)} {rs:List Int} {j:Nat} (ht:t.length=k) (hs:rs.length=k):(rpl t rs j).length=k:=by simp [rpl,ht,hs]
theorem zX {k:Nat} {t:List (List Int)} {rs:List Int} {j:Nat} (hr:∀ r∈t,r.length=k) (hj:j<k):∀ r∈rpl t rs j,r.length=k:=fun r h=>by
 obtain ⟨⟨q,e⟩,hq,rfl⟩:=List.mem_map.mp h
 have:=hr q (List.of_mem_zip hq).1
 simp only [List.length_append,List.length_take,List.length_drop,List.length_cons,List.length_nil]
 omega
theorem Fv {b:Nat} {t:List (List Int)} {rs:List Int} {j:Nat} (hx:∀ r∈t,∀ x∈r,Bd b x) (hy:∀ x∈rs,Bd b x):∀ r∈rpl t rs j,∀ x∈r,Bd b x:=fun r h x hxr=>by
 obtain ⟨⟨q,e⟩,hq,rfl⟩:=List.mem_map.mp h
 obtain ⟨h1,h2⟩:=List.of_mem_zip hq
 rcases List.mem_append.mp hxr with z | z
 ·rcases List.mem_append.mp z with z | z
  ·exact hx q h1 x (List.mem_of_mem_take z)
  ·rw [List.mem_singleton.mp z];exact hy e h2
 ·exact hx q h1 x (List.mem_of_mem_drop z)
def tZ (ls:List Ln) (k:Nat):List (List Int):=(List.range k).map fun i=>(List.range k).map fun j=>lap ls (i+1) (j+1)
theorem inj {k:Nat} {ls:List Ln} (ho:∀ l∈ls,l.Ok (k+1)) (hc:Cn (k+1) ls) (x:Nat->Rat) (h:∀ i,i<k->cj (fun j=>((lap ls (i+1) (j+1):Int):Rat)*x j) k=0):∀ j,j<k->x j=0:=by
 have:=qJ hc ho (x:=fun p=>match p with | 0=>0 | p+1=>x p) rfl fun i g1 g2=>by
  obtain ⟨i',rfl⟩:∃ i',i=i'+1:=⟨i - 1,by omega⟩
  rw [← qP (n:=k+1) _ _ ls ho,km]
  show _*0+cj (fun j=>((lap ls (i'+1) (j+1):Int):Rat)*x j) k=0
  rw [h i' (by omega)];grind
 intro j hj
 exact this (j+1) (by omega)
theorem vD {k:Nat} {ls:List Ln} (ho:∀ l∈ls,l.Ok (k+1)) (y:Nat->Rat) (h0:y 0=0) (i:Nat):flow y ls i=cj (fun j=>((lap ls i (j+1):Int):Rat)*y (j+1)) k:=by
 rw [← qP (n:=k+1) _ _ ls ho,km,h0];grind
theorem Yv (f:Nat->Rat):cj f 1=f 0:=by show 0+f 0=_;grind
theorem sum2 (f:Nat->Rat):cj f 2=f 0+f 1:=by show 0+f 0+f 1=_;grind
theorem Yw (f:Nat->Rat):cj f 3=f 0+f 1+f 2:=by show 0+f 0+f 1+f 2=_;grind
end Z
namespace Z
open PySem L2 TM
theorem c2Q (a b c d:Int):((a*d - c*b:Int):Rat)=(a:Rat)*d - c*b:=by rw [Rat.intCast_sub,Rat.intCast_mul,Rat.intCast_mul]
theorem c3Q (a b c d e f g h i:Int):((a*(e*i - h*f) - d*(b*i - h*c)+g*(b*f - e*c):Int):Rat)=d3 a b c d e f g h i:=by
 unfold d3
 rw [Rat.intCast_add,Rat.intCast_sub,Rat.intCast_mul,Rat.intCast_mul,Rat.intCast_mul,c2Q,c2Q,c2Q]
theorem Ec {k:Nat} {ls:List Ln} {rs:List Int} (hk:k<=3) (ho:∀ l∈ls,l.Ok (k+1)) (hc:Cn (k+1) ls) (hrs:rs.length=k) :
  ((dt (tZ ls k):Int):Rat)≠0 ∧ ∀ i,i<k->cj (fun j=>((lap ls (i+1) (j+1):Int):Rat)*((dt (rpl (tZ ls k) rs j):Int):Rat)) k=((dt (tZ ls k):Int):Rat)*((rs.getD i 0:Int):Rat):=by
 have J:=inj ho hc
 rcases (show k=0∨k=1∨k=2∨k=3 by omega) with rfl | rfl | rfl | rfl
 ·exact ⟨by show ((1:Int):Rat)≠0;decide,fun i hi=>by omega⟩
 ·obtain ⟨r,rfl⟩:=wN hrs
  show ((lap ls 1 1:Int):Rat)≠0 ∧ ∀ i,i<1->cj (fun j=>((lap ls (i+1) (j+1):Int):Rat)*((dt (rpl [[lap ls 1 1]] [r] j):Int):Rat)) 1=((lap ls 1 1:Int):Rat)*((([r]:List Int).getD i 0:Int):Rat)
  refine ⟨fun z=>?_,fun i hi=>?_⟩
  ·have:=J (fun _=>1) (fun i hi=>by rw [Yv,show i=0 by omega,z];grind) 0 (by decide)
   exact absurd this (by decide)
  ·rw [Yv,show i=0 by omega];rfl
 ·obtain ⟨r,s,rfl⟩:=qz hrs
  have et:tZ ls 2=[[lap ls 1 1,lap ls 1 2],[lap ls 2 1,lap ls 2 2]]:=rfl
  rw [et]
  have H:∀ x y:Rat,((lap ls 1 1:Int):Rat)*x+((lap ls 1 2:Int):Rat)*y=0->((lap ls 2 1:Int):Rat)*x+((lap ls 2 2:Int):Rat)*y=0->x=0∧y=0:=fun x y h1 h2=>by
   have q:=J (fun p=>match p with | 0=>x | _=>y) (fun i hi=>by
    rw [sum2]
    rcases (show i=0∨i=1 by omega) with rfl | rfl
    ·exact h1
    ·exact h2)
   exact ⟨q 0 (by decide),q 1 (by decide)⟩
  have N:=nz2 H
  have e0:dt (rpl [[lap ls 1 1,lap ls 1 2],[lap ls 2 1,lap ls 2 2]] [r,s] 0)=r*lap ls 2 2 - s*lap ls 1 2:=rfl
  have e1:dt (rpl [[lap ls 1 1,lap ls 1 2],[lap ls 2 1,lap ls 2 2]] [r,s] 1)=lap ls 1 1*s - lap ls 2 1*r:=rfl
  have eD:dt [[lap ls 1 1,lap ls 1 2],[lap ls 2 1,lap ls 2 2]]=lap ls 1 1*lap ls 2 2 - lap ls 2 1*lap ls 1 2:=rfl
  have C:=cr2 (lap ls 1 1:Int) (lap ls 1 2:Int) (lap ls 2 1:Int) (lap ls 2 2:Int) (r:Int) (s:Int)
  rw [eD,c2Q]
  refine ⟨N,fun i hi=>?_⟩
  rw [sum2,e0,e1,c2Q,c2Q]
  rcases (show i=0∨i=1 by omega) with rfl | rfl
  ·exact C.1
  ·exact C.2
 ·obtain ⟨r,s,u,rfl⟩:=iW hrs
  have et:tZ ls 3=[[lap ls 1 1,lap ls 1 2,lap ls 1 3],[lap ls 2 1,lap ls 2 2,lap ls 2 3],[lap ls 3 1,lap ls 3 2,lap ls 3 3]]:=rfl
  rw [et]
  have H:∀ x y z:Rat,((lap ls 1 1:Int):Rat)*x+((lap ls 1 2:Int):Rat)*y+((lap ls 1 3:Int):Rat)*z=0->((lap ls 2 1:Int):Rat)*x+((lap ls 2 2:Int):Rat)*y+((lap ls 2 3:Int):Rat)*z=0->((lap ls 3 1:Int):Rat)*x+((lap ls 3 2:Int):Rat)*y+((lap ls 3 3:Int):Rat)*z=0->x=0∧y=0∧z=0:=fun x y z h1 h2 h3=>by
   have q:=J (fun p=>match p with | 0=>x | 1=>y | _=>z) (fun i hi=>by
    rw [Yw]
    rcases (show i=0∨i=1∨i=2 by omega) with rfl | rfl | rfl
    ·exact h1
    ·exact h2
    ·exact h3)
   exact ⟨q 0 (by decide),q 1 (by decide),q 2 (by decide)⟩
  have N:=nz3 H
  have e0:dt (rpl [[lap ls 1 1,lap ls 1 2,lap ls 1 3],[lap ls 2 1,lap ls 2 2,lap ls 2 3],[lap ls 3 1,lap ls 3 2,lap ls 3 3]] [r,s,u] 0)=r*(lap ls 2 2*lap ls 3 3 - lap ls 3 2*lap ls 2 3) - s*(lap ls 1 2*lap ls 3 3 - lap ls 3 2*lap ls 1 3)+u*(lap ls 1 2*lap ls 2 3 - lap ls 2 2*lap ls 1 3):=rfl
  have e1:dt (rpl [[lap ls 1 1,lap ls 1 2,lap ls 1 3],[lap ls 2 1,lap ls 2 2,lap ls 2 3],[lap ls 3 1,lap ls 3 2,lap ls 3 3]] [r,s,u] 1)=lap ls 1 1*(s*lap ls 3 3 - u*lap ls 2 3) - lap ls 2 1*(r*lap ls 3 3 - u*lap ls 1 3)+lap ls 3 1*(r*lap ls 2 3 - s*lap ls 1 3):=rfl
  have e2:dt (rpl [[lap ls 1 1,lap ls 1 2,lap ls 1 3],[lap ls 2 1,lap ls 2 2,lap ls 2 3],[lap ls 3 1,lap ls 3 2,lap ls 3 3]] [r,s,u] 2)=lap ls 1 1*(lap ls 2 2*u - lap ls 3 2*s) - lap ls 2 1*(lap ls 1 2*u - lap ls 3 2*r)+lap ls 3 1*(lap ls 1 2*s - lap ls 2 2*r):=rfl
  have eD:dt [[lap ls 1 1,lap ls 1 2,lap ls 1 3],[lap ls 2 1,lap ls 2 2,lap ls 2 3],[lap ls 3 1,lap ls 3 2,lap ls 3 3]]=lap ls 1 1*(lap ls 2 2*lap ls 3 3 - lap ls 3 2*lap ls 2 3) - lap ls 2 1*(lap ls 1 2*lap ls 3 3 - lap ls 3 2*lap ls 1 3)+lap ls 3 1*(lap ls 1 2*lap ls 2 3 - lap ls 2 2*lap ls 1 3):=rfl
  have C:=cr3 (lap ls 1 1:Int) (lap ls 1 2:Int) (lap ls 1 3:Int) (lap ls 2 1:Int) (lap ls 2 2:Int) (lap ls 2 3:Int) (lap ls 3 1:Int) (lap ls 3 2:Int) (lap ls 3 3:Int) (r:Int) (s:Int) (u:Int)
  rw [eD,c3Q]
  refine ⟨N,fun i hi=>?_⟩
  rw [Yw,e0,e1,e2,c3Q,c3Q,c3Q]
  rcases (show i=0∨i=1∨i=2 by omega) with rfl | rfl | rfl
  ·exact C.1
  ·exact C.2.1
  ·exact C.2.2
theorem Qp {k:Nat} {ls:List Ln} {es hs:List Rat} {rs:List Int} {B:Int} (hk:k<=3) (ho:∀ l∈ls,l.Ok (k+1)) (hc:Cn (k+1) ls) (hB:(B:Rat)≠0) (hrs:rs.length=k)
  (hr:∀ i,i<k->((rs.getD i 0:Int):Rat)=es.getD (i+1) 0*(B:Rat)) (I:Is (k+1) ls es hs) :
  ((dt (tZ ls k):Int):Rat)≠0 ∧ ∀ j,j<k->hs.getD (j+1) 0=((dt (rpl (tZ ls k) rs j):Int):Rat) / (((dt (tZ ls k):Int):Rat)*(B:Rat)):=by
 obtain ⟨N,C⟩:=Ec (rs:=rs) hk ho hc hrs
 refine ⟨N,fun j hj=>?_⟩
 have DB:((dt (tZ ls k):Int):Rat)*(B:Rat)≠0:=fun z=>(Rat.mul_eq_zero.mp z).elim N hB
 have q:=inj ho hc (fun j=>((dt (tZ ls k):Int):Rat)*(B:Rat)*hs.getD (j+1) 0+(-1)*((dt (rpl (tZ ls k) rs j):Int):Rat)) (fun i hi=>by
  have f1:=vD ho (fun p=>hs.getD p 0) I.z (i+1)
  rw [I.g (i+1) (by omega) (by omega)] at f1
  have f2:=C i hi
  have e:∀ j,j<k->((lap ls (i+1) (j+1):Int):Rat)*(((dt (tZ ls k):Int):Rat)*(B:Rat)*hs.getD (j+1) 0+(-1)*((dt (rpl (tZ ls k) rs j):Int):Rat))=(((dt (tZ ls k):Int):Rat)*(B:Rat))*(((lap ls (i+1) (j+1):Int):Rat)*hs.getD (j+1) 0)+(-1)*(((lap ls (i+1) (j+1):Int):Rat)*((dt (rpl (tZ ls k) rs j):Int):Rat)):=fun j _=>by grind
  rw [bQ k e,gU,gW,gW,← f1,f2,hr i hi];grind) j hj
 have q':((dt (tZ ls k):Int):Rat)*(B:Rat)*hs.getD (j+1) 0+(-1)*((dt (rpl (tZ ls k) rs j):Int):Rat)=0:=q
 grind
end Z
namespace Z
open PySem L2 TM
def lcB:cD:=(bK 4 (sDo lV [.val (sDo dH [.nam 4,.val (aW 5 (.val (sC (.int 1))))]),.val (aV 2 eY [.nam 4,.val (aW 5 (.val (sC (.int 1))))])]))
def hiB:cD:=(iM (lO gh 12 [.val (aV 1 (aU 4) [.val (cO (pZ (cC 6) (cC 11)) 2 [13] (gT [gN 0,gN 1]) (fu) (sDo cI [.val (sDo cI [.val (iQ (.nam 0) (.nam 2)),.val (fH [.val (cC 1)])]),.val (dX (.nam 0) (.val (sDo cI [.nam 2,.val (sC (.int 1))])))]))])]))
def rn6:cD:=(aR (bK 14 (sDo dH [.val (aV 1 (aU 4) [.nam 6]),.nam 4]))
   (cT (cO (gq (cC 3)) 1 [12,14] (gN 0) (fu) (aV 2 bR [.val (sDo dH [.val (aW 0 (.val (sC (.int 2)))),.val (sDo pN [.val (aW 1 (.val (aW 0 (.val (sC (.int 0)))))),.val (aW 1 (.val (aW 0 (.val (sC (.int 1))))))])]),.nam 2]))))
def rn5:cD:=(aR (bK 12 (fH [.val (sC (.int 0))]))
   (aR (il (cZ (.val (sDo pN [.nam 2,.val (sC (.int 1))]))) (gN 13)
   hiB)
   rn6))
def rn4:cD:=(aR (bK 11 (cO (gq (dX (.nam 1) (.val (sC (.int 1))))) 1 [4] (gN 0) (fu) (sDo dH [.val (aW 0 (.val (sC (.int 0)))),.val (sDo lV [.nam 1,.val (aW 0 (.val (sC (.int 1))))])])))
   rn5)
def rn3:cD:=(aR (bK 6 (cO (gq (dX (.val (cC 6)) (.val (sC (.int 1))))) 1 [] (gN 0) (fu) (dX (.nam 0) (.val (sC (.int 1))))))
   rn4)
def rn2:cD:=(aR (il (gq (cC 3)) (gT [gN 7,gN 8,gN 9,gN 10])
   (aR (jU (fun i j=>i+j) 6 7 7 9)
   (aR (jU (fun i j=>i+j) 6 8 8 9)
   (aR (jU (fun i j=>i - j) 6 7 8 9)
   (jU (fun i j=>i - j) 6 8 7 9)))))
   rn3)
def rn1:cD:=(aR (bK 6 (cO (cZ (.nam 2)) 1 [2] (gN 0) (fu) (sDo dH [.val (fH [.val (sC (.int 0))]),.nam 1])))
   rn2)
theorem Wn:cL=fnS 2 13 false
   (aR (Jv (gT [gN 2,gN 3]) (cC 0))
   (aR (bK 4 (sC (.int 1)))
   (aR (il (gq (cC 1)) (gN 5)
   lcB)
   rn1))):=by
 unfold cL rn1 rn2 rn3 rn4 rn5 rn6 lcB hiB;with_reducible rfl
theorem Mr {B d:Int} (hB:1<=B) (hd:1<=d):1<=(B*d).fdiv (Int.gcd B d)∧B ∣ (B*d).fdiv (Int.gcd B d)∧d ∣ (B*d).fdiv (Int.gcd B d)∧(B*d).fdiv (Int.gcd B d)<=B*d:=by
 have g0:(0:Int)<(Int.gcd B d:Int):=by
  have:=Int.gcd_pos_of_ne_zero_left d (show B≠0 by omega)
  omega
 obtain ⟨x,hx⟩:=Int.gcd_dvd_left (a:=B) (b:=d)
 obtain ⟨y,hy⟩:=Int.gcd_dvd_right (a:=B) (b:=d)
 generalize hg:(Int.gcd B d:Int)=g at *
 have x1:1<=x:=by
  rcases Int.lt_or_le 0 x with h | h
  ·omega
  ·have:g*x<=0:=Int.mul_nonpos_of_nonneg_of_nonpos (by omega) h
   omega
 have y1:1<=y:=by
  rcases Int.lt_or_le 0 y with h | h
  ·omega
  ·have:g*y<=0:=Int.mul_nonpos_of_nonneg_of_nonpos (by omega) h
   omega
 have e:(B*d).fdiv g=x*d:=by
  rw [hx,Int.mul_assoc,Int.mul_fdiv_cancel_left _ (by omega)]
 rw [e]
 have xd:1<=x*d:=by
  have:=Int.mul_le_mul x1 hd (by omega) (by omega)
  omega
 refine ⟨xd,⟨y,?_⟩,⟨x,Int.mul_comm _ _⟩,?_⟩
 ·rw [hx,hy];grind
 ·exact Int.mul_le_mul_of_nonneg_right (by
   have:=Int.mul_le_mul_of_nonneg_right (show 1<=g by omega) (show 0<=x by omega)
   omega) (by omega)
theorem Vj {m k:Nat} {B:Int} {q:Rat} (hB:1<=B) (hb:Bd k B) (hq:Bq m q) (hm:m<=100000) (hk:k<=1000000) {a b c d f:Option D} {r:En} {E:EndD}
  (hE:E.nx (a :: b :: c :: d :: some (.int ((B*(q.den:Int)).fdiv (Int.gcd B (q.den:Int)))) :: some (fr q) :: r)):lcB (a :: b :: c :: d :: some (.int B) :: some (fr q) :: r) E:=by
 have c1:iw B (q.den:Int)=true:=cb hb hq.2 (by omega)
 have g0:(Int.gcd B (q.den:Int):Int)≠0:=by
  have:=Int.gcd_pos_of_ne_zero_left (q.den:Int) (show B≠0 by omega)
  omega
 dsimp? only [lcB,lN,c1]
 refine qb ?_
 dsimp? only [g0]
 exact hE
end Z
namespace Z
open PySem L2 TM
theorem Wl {n k b b2:Nat} {ls:List Ln} {t:List (List Int)} {HI:List Int} {B:Int} {d6:D} (h6:d6.fz = .lst false (t.map rZ)) (hk:k<=3) (ht:t.length=k) (hr:∀ r∈t,r.length=k) (hb:b<=100000) (hx:∀ r∈t,∀ x∈r,Bd b x)
  (ho:∀ l∈ls,l.Ok n) (hl:ls.length<=6) (hH:HI.length=n) (hHb:∀ x∈HI,Bd b2 x) (hb2:b2<=1000000) (hBb:Bd b2 B) (hD:dt t*B≠0) {a b' c e f g h i j q p:Option D} {E:EndD}
  (hE:∀ ρ,E.rt (.lst true ((ls.map fun l=>Rat.divInt ((l.s:Int)*(HI.getD l.a 0 - HI.getD l.b 0)) (dt t*B)).map fr)) ρ) :
  rn6 [a,b',c,some (cB ls),some (.int B),e,some d6,f,g,h,i,j,some (.lst true (HI.map D.int)),q,p] E:=by
 have c1:iw (dt t) B=true:=cb (Gr hk ht hr hx) hBb (by omega)
 unfold rn6
 rw [Eh,zj,Gy,fQ,pC,jO]
 dsimp? only [h6]
 refine HX hk ht hr (by omega) hx ?_
 dsimp? only [c1,cB,gY,dF,List.length_map]
 refine bC (by omega) ?_
 dsimp? only
 refine bY Ln.d (fun l=>fr (Rat.divInt ((l.s:Int)*(HI.getD l.a 0 - HI.getD l.b 0)) (dt t*B))) (fun ρ => ∃ x,ρ = [x,some (.lst true (HI.map D.int)),some (.int (dt t*B))]) ⟨_,rfl⟩ ?_ ?_
 ·rintro l hlm ρ ⟨x,rfl⟩ P hP
  have o:=ho l hlm
  have ga:=jr (o:=true) (g:=HI) (k:=l.a) (by rw [hH];exact o.a)
  have gb:=jr (o:=true) (g:=HI) (k:=l.b) (by rw [hH];exact o.b)
  have j0:ixF l.d 0=some (.int (l.a:Int),none):=rfl
  have j1:ixF l.d 1=some (.int (l.b:Int),none):=rfl
  have j2:ixF l.d 2=some (.int (l.s:Int),none):=rfl
  have ma:∀ p,p<n->Bd b2 (HI.getD p 0):=fun p hp=>hHb _ (by
   rw [List.getD_eq_getElem?_getD,List.getElem?_eq_getElem (by rw [hH];exact hp)];exact List.getElem_mem _)
  have cs:iw (l.s:Int) (HI.getD l.a 0 - HI.getD l.b 0)=true:=cb (m:=4) (n:=b2+1) (iY (m:=16) (by have:=o.s;omega) (by decide)) (Bd.sub (ma _ o.a) (ma _ o.b)) (by omega)
  dsimp? only [Od,j0,j1,j2,ga,gb,cs]
  refine lY hD ?_
  dsimp? only [Od]
  exact hP _ ⟨_,rfl⟩
 rintro ρ ⟨x,rfl⟩
 have em:ls.map (fun l=>fr (Rat.divInt ((l.s:Int)*(HI.getD l.a 0 - HI.getD l.b 0)) (dt t*B)))=(ls.map fun l=>Rat.divInt ((l.s:Int)*(HI.getD l.a 0 - HI.getD l.b 0)) (dt t*B)).map fr:=by rw [List.map_map];rfl
 rw [em]
 (try dsimp? only)
 exact hE _
end Z
namespace Z
open PySem L2 TM
def rO (o:Bool) (r:List Int):D:=.lst o (r.map D.int)
theorem Tj (o:Bool) (r:List Int):(rO o r).fz=rZ r:=by show D.lst false (D.fzs _)=_;rw [gw];rfl
theorem zp (o:Bool) (t:List (List Int)):D.fzs (t.map (rO o))=t.map rZ:=by
 rw [D.fzs_eq,List.map_map]
 apply List.map_congr_left
 intro r _
 exact Tj o r
theorem Pz (t:List (List Int)) (rs:List Int):mL (t.map rZ) (rs.map D.int)=(t.zip rs).map fun p=>D.tup [rZ p.1,.int p.2]:=by
 unfold mL
 rw [List.zip_map,List.map_map];rfl
def hiE:bU:=sDo cI [.val (sDo cI [.val (iQ (.nam 0) (.nam 2)),.val (fH [.val (cC 1)])]),.val (dX (.nam 0) (.val (sDo cI [.nam 2,.val (sC (.int 1))])))]
theorem Uw {k j:Nat} {r:List Int} {e:Int} (hr:r.length=k) (hj:j<k) (hk:k<=3) {Q:D->En->Prop} (h:Q (rO true (r.take j++[e]++r.drop (j+1))) [some (rZ r),some (.int e),some (.int (j:Int))]):hiE [some (rZ r),some (.int e),some (.int (j:Int))] Q:=by
 have t1:=uM false (r.map D.int) (i:=j) (dN r) (by rw [List.length_map];omega)
 have t2:=iD false (r.map D.int) (i:=j+1) (dN r) (by rw [List.length_map];omega)
 have t1':qH (rZ r) none (some (j:Int))=some (rO true (r.take j)):=by rw [← List.map_take] at t1;exact t1
 have t2':qH (rZ r) (some ((j:Int)+1)) none=some (rO true (r.drop (j+1))):=by rw [← List.map_drop] at t2;exact t2
 have a1:cI [rO true (r.take j),.lst true [.int e]]=some (rO true (r.take j++[e])):=by
  have:=iH ((r.take j).map D.int) ([e].map D.int) true true (by rw [sizeLine_eq,List.length_map,List.length_map,List.length_take];show _+1<=_;omega) (dN _) (dN _)
  rw [← List.map_append] at this
  exact this
 have a2:cI [rO true (r.take j++[e]),rO true (r.drop (j+1))]=some (rO true (r.take j++[e]++r.drop (j+1))):=by
  have:=iH ((r.take j++[e]).map D.int) ((r.drop (j+1)).map D.int) true true (by rw [sizeLine_eq,List.length_map,List.length_map,List.length_append,List.length_take,List.length_drop];show _+1+_<=_;omega) (dN _) (dN _)
  rw [← List.map_append] at this
  exact this
 dsimp? only [hiE,↓iQ,↓dX,t1',t2',a1,a2,Do]
 exact h
theorem Vo {ds:List D} {d:D} (h:ds.length<=100):gh ds [d]=some (ds++[d],.non):=vW _ _ (by rw [sizeLine_eq];omega)
theorem Uu:hiB=iM (lO gh 12 [.val (aV 1 (aU 4) [.val (cO (pZ (cC 6) (cC 11)) 2 [13] (gT [gN 0,gN 1]) (fu) hiE)])]):=rfl
theorem Uv {k b j:Nat} {t:List (List Int)} {rs HI:List Int} {o o':Bool} (hk:k<=3) (ht:t.length=k) (hr:∀ r∈t,r.length=k) (hrs:rs.length=k) (hj:j<k) (hb:b<=1000000) (hx:∀ r∈t,∀ x∈r,Bd b x) (hy:∀ x∈rs,Bd b x) (hH:HI.length<=10)
  {x0 x1 x2 x3 x4 x5 x7 x8 x9 x10 x14:Option D} {E:EndD}
  (hE:E.nx [x0,x1,x2,x3,x4,x5,some (.lst false (t.map (rO false))),x7,x8,x9,x10,some (.lst false (rs.map D.int)),some (.lst true ((HI++[dt (rpl t rs j)]).map D.int)),some (.int (j:Int)),x14]) :
  hiB [x0,x1,x2,x3,x4,x5,some (.lst o (t.map (rO o))),x7,x8,x9,x10,some (.lst o' (rs.map D.int)),some (.lst true (HI.map D.int)),some (.int (j:Int)),x14] E:=by
 have fin:∀ {x:Option D} {Q:List D->En->Prop},(∀ ρ,(∃ y z,ρ = [y,z,some (.int (j:Int))])->Q ((t.zip rs).map fun p=>rO true (p.1.take j++[p.2]++p.1.drop (j+1))) ρ)->jz (gT [gN 0,gN 1]) fu hiE ((t.zip rs).map fun p=>D.tup [rZ p.1,.int p.2]) [none,none,some (.int (j:Int))] Q:=by
  intro x Q hQ
  refine bY (fun p:List Int×Int=>D.tup [rZ p.1,.int p.2]) (fun p=>rO true (p.1.take j++[p.2]++p.1.drop (j+1))) (fun ρ => ∃ y z,ρ = [y,z,some (.int (j:Int))]) ⟨_,_,rfl⟩ ?_ hQ
  rintro ⟨r,e⟩ hre ρ ⟨y,z,rfl⟩ P hP
  dsimp? only
  exact Uw (hr r (List.of_mem_zip hre).1) hj hk (hP _ ⟨_,_,rfl⟩)
 have ef:D.fzs ((t.zip rs).map fun p=>rO true (p.1.take j++[p.2]++p.1.drop (j+1)))=(rpl t rs j).map rZ:=by
  unfold rpl
  rw [D.fzs_eq,List.map_map,List.map_map]
  apply List.map_congr_left
  intro p _
  exact Tj true _
 have e0:t.map (rO false)=t.map rZ:=rfl
 have ma:=Vo (ds:=HI.map D.int) (d:=.int (dt (rpl t rs j))) (by rw [List.length_map];omega)
 have em:HI.map D.int++[.int (dt (rpl t rs j))]=(HI++[dt (rpl t rs j)]).map D.int:=by rw [List.map_append];rfl
 rw [em] at ma
 have sH:D.shs (t.map (rO false))=true:=nJ t
 have sf:D.fzs (t.map (rO false))=t.map rZ:=zm t
 rw [Uu]
 cases o <;> cases o' <;> (
  dsimp? only [zp,zm,nJ,sH,sf,gw,dN,List.length_map,Pz]
  refine bC (by omega) ?_
  dsimp? only [zp,zm,nJ,sH,sf,gw,dN,Pz]
  refine fin (x:=none) ?_
  rintro ρ ⟨y,z,rfl⟩
  dsimp? only [wb,ef]
  refine HX hk (zW ht hrs) (zX hr hj) hb (Fv hx hy) ?_
  dsimp? only [wb,ma,gw,zp]
  exact hE)
end Z
namespace Z
open PySem L2 TM
def hiL (t:List (List Int)) (rs:List Int) (j:Nat):List Int:=0 :: (List.range j).map fun i=>dt (rpl t rs i)
theorem Wj {k b b2:Nat} {ls:List Ln} {t:List (List Int)} {rs:List Int} {B:Int} (hk:k<=3) (ht:t.length=k) (hr:∀ r∈t,r.length=k) (hrs:rs.length=k) (hb:b<=100000) (hx:∀ r∈t,∀ x∈r,Bd b x) (hy:∀ x∈rs,Bd b x)
  (ho:∀ l∈ls,l.Ok (k+1)) (hl:ls.length<=6) (hBb:Bd (3*b+4) B) (hD:dt t*B≠0) {x0 x1 x5 x7 x8 x9 x10 x12 x13 x14:Option D} {E:EndD}
  (hE:∀ ρ,E.rt (.lst true ((ls.map fun l=>Rat.divInt ((l.s:Int)*((hiL t rs k).getD l.a 0 - (hiL t rs k).getD l.b 0)) (dt t*B)).map fr)) ρ) :
  rn5 [x0,x1,some (.int ((k+1:Nat):Int)),some (cB ls),some (.int B),x5,some (.lst true (t.map (rO true))),x7,x8,x9,x10,some (.lst true (rs.map D.int)),x12,x13,x14] E:=by
 have p62:(2:Int) ^ 62=4611686018427387904:=by decide
 have e1:((k+1:Nat):Int) - 1=(k:Int):=by omega
 have e2:(k:Int).toNat=k:=by omega
 dsimp? only [rn5,e1,p62]
 rw [e2]
 refine bC ⟨by omega,by omega,by omega⟩ ?_
 (try dsimp? only)
 refine cR (fun j ρ => ∃ (o o':Bool) (x13:Option D),ρ = [x0,x1,some (.int ((k+1:Nat):Int)),some (cB ls),some (.int B),x5,some (.lst o (t.map (rO o))),x7,x8,x9,x10,some (.lst o' (rs.map D.int)),some (.lst true ((hiL t rs j).map D.int)),x13,x14]) 0 ⟨true,true,_,rfl⟩ ?_ ?_
 ·rintro j d ρ hd ⟨o,o',x13,rfl⟩ P hP
  obtain ⟨hj,rfl⟩:=iK hd
  rw [Nat.zero_add]
  dsimp? only [Int.zero_add]
  refine Uv hk ht hr hrs hj (by omega) hx hy (by simp [hiL];omega) ?_
  have eh:hiL t rs j++[dt (rpl t rs j)]=hiL t rs (j+1):=by unfold hiL;rw [List.range_succ,List.map_append];rfl
  rw [eh]
  rw [Nat.zero_add] at hP
  exact hP _ ⟨false,false,_,rfl⟩
 rintro ρ ⟨o,o',x13,rfl⟩
 rw [jT,Nat.zero_add]
 (try dsimp? only)
 refine Wl (b2:=3*b+4) (by show D.lst false (D.fzs (t.map (rO o)))=_;rw [zp]) hk ht hr hb hx ho hl (by simp [hiL]) (fun x hxm=>?_) (by omega) hBb hD hE
 rcases List.mem_cons.mp hxm with rfl | hxm
 ·show 0<2 ^ _
  exact Nat.two_pow_pos _
 ·obtain ⟨j,hj,rfl⟩:=List.mem_map.mp hxm
  exact Gr hk (zW ht hrs) (zX hr (List.mem_range.mp hj)) (Fv hx hy)
def rsZ (B:Int) (es:List Rat):List Int:=(es.drop 1).map fun q=>q.num*B.fdiv (q.den:Int)
theorem Qk (es:List Rat) (h:1<=es.length):qH (.lst false (es.map fr)) (some 1) none=some (.lst true ((es.drop 1).map fr)):=by
 have:=iD false (es.map fr) (i:=1) (aC es) (by rw [List.length_map];exact h)
 rw [← List.map_drop] at this
 exact this
theorem Wi {k m:Nat} {es:List Rat} {B:Int} (hl:es.length=k+1) (hk:k<=3) (hm:m<=100000) (hq:∀ q∈es,Bq m q) (hB1:1<=B) (hBb:Bd (5*m+5) B) {x0 x2 x3 x5 x6 x7 x8 x9 x10 x11 x12 x13 x14:Option D} {E:EndD}
  (hE:rn5 [x0,some (.lst false (es.map fr)),x2,x3,some (.int B),x5,x6,x7,x8,x9,x10,some (.lst true ((rsZ B es).map D.int)),x12,x13,x14] E) :
  rn4 [x0,some (.lst false (es.map fr)),x2,x3,some (.int B),x5,x6,x7,x8,x9,x10,x11,x12,x13,x14] E:=by
 have d1:=Qk es (by omega)
 have ld:(es.drop 1).length<=3:=by rw [List.length_drop];omega
 dsimp? only [rn4,↓dX,d1,aB,aF,aG,aK,aC,au,aq,aZ,bw,aD,aO,aN,aP,az,Int.zero_add,List.length_map]
 refine bC (by omega) ?_
 dsimp? only [aB,aF,aG,aK,aC,au,aq,aZ,bw,aD,aO,aN,aP,az,Int.zero_add]
 refine bY fr (fun q=>D.int (q.num*B.fdiv (q.den:Int))) (fun ρ => ∃ x,ρ = [x,some (.int B)]) ⟨_,rfl⟩ ?_ ?_
 ·rintro q hqm ρ ⟨x,rfl⟩ P hP
  have bq:=hq q (List.mem_of_mem_drop hqm)
  have d0:(q.den:Int)≠0:=jN q
  have bz:Bd (5*m+5) (B.fdiv (q.den:Int)):=by
   refine Bd.le hBb ?_
   rw [Int.fdiv_eq_ediv_of_nonneg _ (by omega)]
   have h1:0<=B / (q.den:Int):=Int.ediv_nonneg (by omega) (by omega)
   have h2:B / (q.den:Int)<=B:=Int.ediv_le_self _ (by omega)
   omega
  have c1:iw q.num (B.fdiv (q.den:Int))=true:=cb bq.1 bz (by omega)
  dsimp? only [aB,aF,aG,aK,aC,au,aq,aZ,bw,aD,aO,aN,aP,az,Int.zero_add,mX,lN,d0,c1]
  exact hP _ ⟨_,rfl⟩
 rintro ρ ⟨x,rfl⟩
 have em:(es.drop 1).map (fun q=>D.int (q.num*B.fdiv (q.den:Int)))=(rsZ B es).map D.int:=by unfold rsZ;rw [List.map_map];rfl
 rw [em]
 (try dsimp? only)
 exact hE
end Z
namespace Z
open PySem L2 TM
theorem Df {α : Type} (f:Nat -> α) (k:Nat):((List.range (k+1)).map f).drop 1=(List.range k).map fun i=>f (i+1):=by
 rw [List.range_succ_eq_map,List.map_cons,List.drop_succ_cons,List.drop_zero,List.map_map];rfl
theorem Wh {k:Nat} {ls:List Ln} (hk:k<=3) {x0 x1 x2 x3 x4 x5 x7 x8 x9 x10 x11 x12 x13 x14:Option D} {E:EndD}
  (hE:rn4 [x0,x1,x2,x3,x4,x5,some (.lst true ((tZ ls k).map (rO true))),x7,x8,x9,x10,x11,x12,x13,x14] E) :
  rn3 [x0,x1,x2,x3,x4,x5,some (.lst true (tabI (lap ls) (k+1))),x7,x8,x9,x10,x11,x12,x13,x14] E:=by
 have s0:D.shs ((List.range (k+1)).map fun i=>mq (lap ls i) (k+1))=true:=gm _ (fun i=>pK _ _) _
 have s1:=iD false ((List.range (k+1)).map fun i=>mq (lap ls i) (k+1)) (i:=1) s0 (by simp)
 rw [Df] at s1
 have c1:=jh (fun i=>mq (lap ls (i+1)) (k+1)) (fun i=>Hd _ _) (List.range k)
 have c2:=gm (fun i=>mq (lap ls (i+1)) (k+1)) (fun i=>pK _ _) (List.range k)
 have sd:(D.lst true (tabI (lap ls) (k+1))).sh=false:=rfl
 have s1':qH (.lst false ((List.range (k+1)).map fun i=>mq (lap ls i) (k+1))) (some 1) none=some (.lst true ((List.range k).map fun i=>mq (lap ls (i+1)) (k+1))):=s1
 dsimp? only [rn3,↓dX,Hf,s1',c1,c2,List.length_map,List.length_range]
 refine bC (by omega) ?_
 dsimp? only
 refine bY (fun i=>mq (lap ls (i+1)) (k+1)) (fun i=>rO true ((List.range k).map fun j=>lap ls (i+1) (j+1))) (fun ρ => ∃ x,ρ = [x]) ⟨_,rfl⟩ ?_ ?_
 ·rintro i _ ρ ⟨x,rfl⟩ P hP
  have s2:qH (mq (lap ls (i+1)) (k+1)) (some 1) none=some (rO true ((List.range k).map fun j=>lap ls (i+1) (j+1))):=by
   have:=iD false ((List.range (k+1)).map fun j=>D.int (lap ls (i+1) j)) (i:=1) (rF _ _) (by simp)
   rw [Df] at this
   have e:rO true ((List.range k).map fun j=>lap ls (i+1) (j+1)) = .lst true ((List.range k).map fun j=>D.int (lap ls (i+1) (j+1))):=by unfold rO;rw [List.map_map];rfl
   rw [e];exact this
  dsimp? only [↓dX,s2,pK]
  exact hP _ ⟨_,rfl⟩
 rintro ρ ⟨x,rfl⟩
 have em:(List.range k).map (fun i=>rO true ((List.range k).map fun j=>lap ls (i+1) (j+1)))=(tZ ls k).map (rO true):=by unfold tZ;rw [List.map_map];rfl
 rw [em]
 (try dsimp? only)
 exact hE
theorem Wg {n:Nat} {ls:List Ln} (hl:ls.length<=6) (ho:∀ l∈ls,l.Ok n) {x0 x1 x2 x4 x5 x7 x8 x9 x10 x11 x12 x13 x14:Option D} {E:EndD}
  (hE:∀ x7 x8 x9 x10,rn3 [x0,x1,x2,some (cB ls),x4,x5,some (.lst true (tabI (lap ls) n)),x7,x8,x9,x10,x11,x12,x13,x14] E) :
  rn2 [x0,x1,x2,some (cB ls),x4,x5,some (.lst true (tabI (fun _ _=>0) n)),x7,x8,x9,x10,x11,x12,x13,x14] E:=by
 dsimp? only [rn2,cB,dF,gY,List.length_map]
 refine bC (by omega) ?_
 (try dsimp? only)
 refine cR (fun k ρ => ∃ T x7 x8 x9 x10,ρ = [x0,x1,x2,some (cB ls),x4,x5,some (.lst true (tabI T n)),x7,x8,x9,x10,x11,x12,x13,x14] ∧ ∀ x y,T x y=lap (ls.take k) x y) 0 ⟨_,_,_,_,_,rfl,fun x y=>rfl⟩ ?_ ?_
 ·rintro k d ρ hd ⟨T,x7,x8,x9,x10,rfl,hT⟩ P hP
  rw [Nat.zero_add] at hT hP
  rw [List.getElem?_map] at hd
  obtain ⟨l,hlk,rfl⟩:=Option.map_eq_some_iff.mp hd
  have o:=ho l (List.mem_of_getElem? hlk)
  dsimp? only [Ln.d]
  refine kZ rfl rfl rfl rfl o.a o.a fun T1 h1=>?_
  (try dsimp? only)
  refine kZ rfl rfl rfl rfl o.b o.b fun T2 h2=>?_
  (try dsimp? only)
  refine kZ rfl rfl rfl rfl o.a o.b fun T3 h3=>?_
  (try dsimp? only)
  refine kZ rfl rfl rfl rfl o.b o.a fun T4 h4=>?_
  (try dsimp? only)
  refine hP _ ⟨_,_,_,_,_,rfl,fun x y=>?_⟩
  rw [take_snoc hlk,Cz,← hT x y]
  exact four o.ne T x y T1 T2 T3 T4 h1 h2 h3 h4
 rintro ρ ⟨T,x7,x8,x9,x10,rfl,hT⟩
 rw [Nat.zero_add,List.length_map,List.take_length] at hT
 have e3:T=lap ls:=by funext x y;exact hT x y
 subst e3
 (try dsimp? only)
 exact hE _ _ _ _
theorem Wf {n:Nat} (hn:n<=4) {x0 x1 x3 x4 x5 x6 x7 x8 x9 x10 x11 x12 x13 x14:Option D} {E:EndD}
  (hE:rn2 [x0,x1,some (.int (n:Int)),x3,x4,x5,some (.lst true (tabI (fun _ _=>0) n)),x7,x8,x9,x10,x11,x12,x13,x14] E) :
  rn1 [x0,x1,some (.int (n:Int)),x3,x4,x5,x6,x7,x8,x9,x10,x11,x12,x13,x14] E:=by
 have p62:(2:Int) ^ 62=4611686018427387904:=by decide
 have e1:(n:Int).toNat=n:=by omega
 have em:=sI (o:=true) (x:=.int 0) (n:=n) (by omega)
 rw [De] at em
 dsimp? only [rn1,p62]
 rw [e1]
 refine bC ⟨by omega,by omega,by omega⟩ ?_
 (try dsimp? only)
 rw [rB]
 refine bY (fun k:Nat=>D.int (k:Int)) (fun i=>D.lst true ((List.range n).map fun j=>D.int 0)) (fun ρ => ∃ x,ρ = [x,some (.int (n:Int))]) ⟨_,rfl⟩ ?_ ?_
 ·rintro i _ ρ ⟨x,rfl⟩ P hP
  dsimp? only [em]
  exact hP _ ⟨_,rfl⟩
 rintro ρ ⟨x,rfl⟩
 have e2:(List.range n).map (fun i=>D.lst true ((List.range n).map fun j=>D.int 0))=tabI (fun _ _=>0) n:=rfl
 rw [e2]
 (try dsimp? only)
 exact hE
end Z
namespace Z
open PySem L2 TM
theorem LQ (t:List (List Int)) (rs:List Int) (k:Nat):(hiL t rs k).getD 0 0=0:=rfl
theorem Tn {t:List (List Int)} {rs:List Int} {k j:Nat} (h:j<k):(hiL t rs k).getD (j+1) 0=dt (rpl t rs j):=by
 show ((List.range k).map fun i=>dt (rpl t rs i)).getD j 0=_
 rw [List.getD_eq_getElem?_getD,List.getElem?_map,List.getElem?_range h];rfl
theorem MK {q:Rat} {B z:Int} (h:B=(q.den:Int)*z):((q.num*z:Int):Rat)=q*(B:Rat):=by
 have e:=jR q
 rw [eX] at e
 have hd:((q.den:Int):Rat)≠0:=fun x=>jN q (by
  have:=Rat.intCast_inj.mp (show ((q.den:Int):Rat)=((0:Int):Rat) from x)
  exact this)
 rw [h,Rat.intCast_mul,Rat.intCast_mul]
 generalize ((q.den:Int):Rat)=d at *
 generalize ((q.num:Int):Rat)=n at *
 generalize ((z:Int):Rat)=w at *
 rw [← e]
 grind
theorem Wm {B:Int} {es:List Rat} {i:Nat} (h:i+1<es.length) (hd:∀ q∈es,(q.den:Int) ∣ B):((( rsZ B es).getD i 0:Int):Rat)=es.getD (i+1) 0*(B:Rat):=by
 have g:=getD_some (r:=es) (a:=i+1) h
 have e:(rsZ B es).getD i 0=(es.getD (i+1) 0).num*B.fdiv ((es.getD (i+1) 0).den:Int):=by
  unfold rsZ
  rw [List.getD_eq_getElem?_getD,List.getElem?_map,List.getElem?_drop,Nat.add_comm 1 i,g];rfl
 obtain ⟨z,hz⟩:=hd _ (List.mem_of_getElem? g)
 rw [e]
 have ez:B.fdiv ((es.getD (i+1) 0).den:Int)=z:=by rw [hz,Int.mul_fdiv_cancel_left _ (jN _)]
 rw [ez]
 exact MK hz
theorem oH {m n:Nat} {ls:List Ln} {es hs:List Rat} (G:Good n ls) (P:Puts n m es) (I:Is n ls es hs) (hm:m<=1000) {Q:D->Option D->Prop} (h:Q (.lst true ((cP ls hs).map fr)) none):cL [fD n ls,.lst false (es.map fr)] Q:=by
 have h1:=G.n1
 have h4:=G.n4
 have h6:=G.l
 have hl:=P.l
 have hc:=G.cn
 obtain ⟨k,rfl⟩:∃ k,n=k+1:=⟨n - 1,by omega⟩
 have en:fD (k+1) ls = .tup [.int ((k+1:Nat):Int),cB ls]:=rfl
 have hk:k<=3:=by omega
 rw [Wn]
 dsimp? only [bV,en,xx,vI,aB,aF,aG,aK,aC,au,aq,aZ,bw,aD,aO,aN,aP,az,Int.zero_add,List.length_map]
 refine bC (by omega) ?_
 (try dsimp? only)
 refine cR (fun i ρ => ∃ (B:Int) (x5:Option D),ρ = [some (fD (k+1) ls),some (.lst false (es.map fr)),some (.int ((k+1:Nat):Int)),some (cB ls),some (.int B),x5,none,none,none,none,none,none,none,none,none]∧1<=B∧Bd (i*m+1) B ∧ ∀ q∈es.take i,(q.den:Int) ∣ B) 0
  ⟨1,_,rfl,by decide,by rw [Nat.zero_mul];show 1<2 ^ 1;decide,fun q hq=>by simp at hq⟩ ?_ ?_
 ·rintro i d ρ hd ⟨B,x5,rfl,hB,hBb,hdv⟩ P' hP
  rw [Nat.zero_add] at hBb hdv hP
  rw [List.getElem?_map] at hd
  obtain ⟨q,hq,rfl⟩:=Option.map_eq_some_iff.mp hd
  have bq:=P.b q (List.mem_of_getElem? hq)
  have hi:i<es.length:=(List.getElem?_eq_some_iff.mp hq).1
  have him:i*m<=4*m:=Nat.mul_le_mul_right _ (by omega)
  have hden:(1:Int)<=(q.den:Int):=by have:=q.den_pos;omega
  obtain ⟨s1,s2,s3,s4⟩:=Mr hB hden
  dsimp? only [aB,aF,aG,aK,aC,au,aq,aZ,bw,aD,aO,aN,aP,az,Int.zero_add]
  refine Vj (f:=none) hB hBb bq (by omega) (by omega) (hP _ ⟨_,_,rfl,s1,?_,fun q' hq'=>?_⟩)
  ·have b2:Bd ((i+1)*m+1) (B*(q.den:Int)):=(hBb.mul bq.2).up (by rw [Nat.add_mul];omega)
   refine Bd.le b2 ?_
   omega
  ·rw [List.take_add_one,hq] at hq'
   rcases List.mem_append.mp hq' with z | z
   ·exact Int.dvd_trans (hdv q' z) s2
   ·have:q'=q:=by simpa using z
    rw [this];exact s3
 rintro ρ ⟨B,x5,rfl,hB,hBb,hdv⟩
 rw [Nat.zero_add,List.length_map] at hBb hdv
 rw [List.take_length] at hdv
 have hm4:es.length*m<=4*m:=Nat.mul_le_mul_right _ (by omega)
 have hBb':Bd (5*m+5) B:=hBb.up (by omega)
 have hB0:(B:Rat)≠0:=fun z=>by
  have:=Rat.intCast_inj.mp (show ((B:Int):Rat)=((0:Int):Rat) from z)
  omega
 have hrs:(rsZ B es).length=k:=by simp [rsZ,hl]
 obtain ⟨N,HH⟩:=Qp (rs:=rsZ B es) hk G.o hc hB0 hrs (fun i hi=>Wm (by omega) hdv) I
 have hx:∀ r∈tZ ls k,∀ x∈r,Bd (6*m+6) x:=fun r hr x hxr=>by
  obtain ⟨i,_,rfl⟩:=List.mem_map.mp hr
  obtain ⟨j,_,rfl⟩:=List.mem_map.mp hxr
  have:=uD (i+1) (j+1) ls G.o
  exact (iY (n:=6) (m:=64) (by omega) (by decide)).up (by omega)
 have hy:∀ x∈rsZ B es,Bd (6*m+6) x:=fun x hxr=>by
  obtain ⟨q,hq,rfl⟩:=List.mem_map.mp hxr
  have hqe:=List.mem_of_mem_drop hq
  have bq:=P.b q hqe
  have bz:Bd (5*m+5) (B.fdiv (q.den:Int)):=by
   refine Bd.le hBb' ?_
   rw [Int.fdiv_eq_ediv_of_nonneg _ (by omega)]
   have h1:0<=B / (q.den:Int):=Int.ediv_nonneg (by omega) (by omega)
   have h2:B / (q.den:Int)<=B:=Int.ediv_le_self _ (by omega)
   omega
  exact (bq.1.mul bz).up (by omega)
 have htl:(tZ ls k).length=k:=by simp [tZ]
 have htr:∀ r∈tZ ls k,r.length=k:=fun r hr=>by
  obtain ⟨i,_,rfl⟩:=List.mem_map.mp hr
  simp
 have hD:dt (tZ ls k)*B≠0:=fun z=>by
  have:((dt (tZ ls k)*B:Int):Rat)=0:=by rw [z];rfl
  rw [Rat.intCast_mul] at this
  exact (Rat.mul_eq_zero.mp this).elim N hB0
 have hgt:∀ p,p<k+1->hs.getD p 0=(((hiL (tZ ls k) (rsZ B es) k).getD p 0:Int):Rat) / (((dt (tZ ls k):Int):Rat)*(B:Rat)):=fun p hp=>by
  cases p with
  | zero=>rw [LQ,I.z];grind
  | succ j=>rw [Tn (by omega)];exact HH j (by omega)
 have ee:(ls.map fun l=>Rat.divInt ((l.s:Int)*((hiL (tZ ls k) (rsZ B es) k).getD l.a 0 - (hiL (tZ ls k) (rsZ B es) k).getD l.b 0)) (dt (tZ ls k)*B))=cP ls hs:=by
  unfold cP
  apply List.map_congr_left
  intro l hlm
  have o:=G.o l hlm
  have DB:((dt (tZ ls k):Int):Rat)*(B:Rat)≠0:=fun z=>(Rat.mul_eq_zero.mp z).elim N hB0
  rw [eX,hgt _ o.a,hgt _ o.b,Rat.intCast_mul,Rat.intCast_mul,Rat.intCast_sub]
  grind
 dsimp? only
 refine Wf h4 (Wg h6 G.o fun _ _ _ _=>Wh hk (Wi hl hk (by omega) P.b hB hBb' (Wj (b:=6*m+6) (b2:=0) hk htl htr hrs (by omega) hx hy G.o h6 (hBb'.up (by omega)) hD fun ρ => ?_)))
 rw [ee]
 (try dsimp? only)
 exact h
end Z
namespace Z
open PySem L2 TM
theorem RD {f:Nat->Rat} {n i:Nat} (h:i<n):((List.range n).map fun j=>fr (f j))[i]? = some (fr (f i)):=by
 rw [List.getElem?_map,List.getElem?_range h];rfl
theorem Hm {o:Bool} {f:Nat->Rat} {n a:Nat} (h:a<n):ixF (.lst o ((List.range n).map fun j=>fr (f j))) (a:Int)=some (fr (f a),none):=ji _ _ (mO (RD h)) rfl
theorem HR {f:Nat->Rat} {n b:Nat} {v:Rat}:((List.range n).map fun j=>fr (f j)).set b (fr v)=(List.range n).map fun j=>fr (if j=b then v else f j):=by
 apply List.ext_getElem?
 intro i
 rw [List.getElem?_set,List.getElem?_map,List.getElem?_map]
 by_cases hi:i<n
 ·rw [List.getElem?_range hi]
  by_cases c:b=i
  ·subst c;simp [hi]
  ·rw [if_neg c];simp [Ne.symm c]
 ·rw [List.getElem?_eq_none (by simpa using hi)]
  by_cases c:b=i
  ·subst c;simp [hi]
  ·rw [if_neg c];rfl
def uP (n a b:Nat):List Rat:=(List.range n).map fun i=>iZ i a - iZ i b
theorem Am {n a b i:Nat} (h:i<n):(uP n a b).getD i 0=iZ i a - iZ i b:=by
 unfold uP
 rw [List.getD_eq_getElem?_getD,List.getElem?_map,List.getElem?_range h];rfl
theorem bq1:Bq 1 (1:Rat):=⟨by show 1<2;decide,by show 1<2;decide⟩
theorem JT:Bq 1 ((-1:Int):Rat):=DQ (m:=1) (i:=-1) (by decide) (by decide)
theorem Ux (i a b:Nat):Bq 1 (iZ i a - iZ i b):=by
 unfold iZ
 split <;> split
 ·rw [show (1:Rat) - 1=0 by grind];exact bq0
 ·rw [show (1:Rat) - 0=1 by grind];exact bq1
 ·rw [show (0:Rat) - 1=((-1:Int):Rat) by show _=(-1:Rat);grind];exact JT
 ·rw [show (0:Rat) - 0=0 by grind];exact bq0
theorem SJ {n a b:Nat} (ha:a<n) (hb:b<n):Puts n 1 (uP n a b) where
 l:=by simp [uP]
 b:=fun p hp=>by
  obtain ⟨i,_,rfl⟩:=List.mem_map.mp hp
  exact Ux i a b
 z:=by rw [bQ n fun i hi=>Am hi,rJ,rM ha,rM hb];grind
def uR (k a b:Nat):List Int:=(List.range k).map fun i=>ind (i+1) a - ind (i+1) b
theorem WP {k a b i:Nat} (h:i<k):(uR k a b).getD i 0=ind (i+1) a - ind (i+1) b:=by
 unfold uR
 rw [List.getD_eq_getElem?_getD,List.getElem?_map,List.getElem?_range h];rfl
def unH (ls:List Ln) (k a b:Nat):List Rat:=(hiL (tZ ls k) (uR k a b) k).map fun x:Int=>((x:Int):Rat) / ((dt (tZ ls k):Int):Rat)
theorem An {ls:List Ln} {k a b p:Nat} (h:p<k+1):(unH ls k a b).getD p 0=(((hiL (tZ ls k) (uR k a b) k).getD p 0:Int):Rat) / ((dt (tZ ls k):Int):Rat):=by
 have hl:(hiL (tZ ls k) (uR k a b) k).length=k+1:=by simp [hiL]
 unfold unH
 rw [List.getD_eq_getElem?_getD,List.getElem?_map,List.getD_eq_getElem?_getD,List.getElem?_eq_getElem (by rw [hl];exact h)];rfl
theorem Ao {ls:List Ln} {k a b:Nat} (G:Good (k+1) ls):Is (k+1) ls (uP (k+1) a b) (unH ls k a b):=by
 have hk:k<=3:=by have:=G.n4;omega
 obtain ⟨N,C⟩:=Ec (rs:=uR k a b) hk G.o G.cn (by simp [uR])
 refine ⟨by simp [unH,hiL],by rw [An (by omega),LQ];show (0:Rat) / _=0;grind,fun i g1 g2=>?_⟩
 obtain ⟨i',rfl⟩:∃ i',i=i'+1:=⟨i - 1,by omega⟩
 rw [vD G.o _ (by rw [An (by omega),LQ];show (0:Rat) / _=0;grind),Am g2]
 have e:∀ j,j<k->((lap ls (i'+1) (j+1):Int):Rat)*(unH ls k a b).getD (j+1) 0=(1 / ((dt (tZ ls k):Int):Rat))*(((lap ls (i'+1) (j+1):Int):Rat)*((dt (rpl (tZ ls k) (uR k a b) j):Int):Rat)):=fun j hj=>by
  rw [An (by omega),Tn hj];grind
 rw [bQ k e,gW,C i' (by omega),WP (by omega),Rat.intCast_sub,tW,tW]
 grind
theorem WM {n a b:Nat}:(List.range n).map (fun j=>fr (if j=b then (if b=a then 0+1 else 0) - 1 else if j=a then 0+1 else 0))=(uP n a b).map fr:=by
 unfold uP
 rw [List.map_map]
 apply List.map_congr_left
 intro j _
 show fr _=fr _
 congr 1
 unfold iZ
 by_cases c1:j=b <;> by_cases c2:j=a <;> simp [c1,c2] <;> grind
theorem JB {n a b:Nat} {ls:List Ln} {hs:List Rat} (G:Good n ls) (ha:a<n) (hb:b<n) (I:Is n ls (uP n a b) hs) {Q:D->Option D->Prop} (h:Q (.lst true ((cP ls hs).map fr)) none):mD [fD n ls,.int (a:Int),.int (b:Int)] Q:=by
 have p62:(2:Int) ^ 62=4611686018427387904:=by decide
 have h4:=G.n4
 have e1:(n:Int).toNat=n:=by omega
 have P:=SJ ha hb
 dsimp? only [mD,iJ,p62]
 rw [e1]
 refine bC ⟨by omega,by omega,by omega⟩ ?_
 (try dsimp? only)
 rw [rB]
 refine bY (fun k:Nat=>D.int (k:Int)) (fun i=>fr ((fun _=>(0:Rat)) i)) (fun ρ => ∃ x,ρ = [x]) ⟨_,rfl⟩ ?_ ?_
 ·rintro i _ ρ ⟨x,rfl⟩ P' hP
  dsimp? only [nP]
  exact hP _ ⟨_,rfl⟩
 rintro ρ ⟨x,rfl⟩
 dsimp? only [Hm ha,Fl,aB,aF,aG,aK,aC,au,aq,aZ,bw,aD,aO,aN,aP,az,Int.zero_add,bV]
 refine Hz bq0 bq1 (by decide) ?_
 dsimp? only [uB ha,HR,Hm hb,Fl,aB,aF,aG,aK,aC,au,aq,aZ,bw,aD,aO,aN,aP,az,Int.zero_add,bV]
 have hbb:Bq 3 (if b=a then (0:Rat)+1 else 0):=by
  split
  ·rw [show (0:Rat)+1=1 by grind];exact bq1.mono (by decide)
  ·exact bq0.mono (by decide)
 refine wg hbb bq1 (by decide) ?_
 dsimp? only [uB hb,HR,aB,aF,aG,aK,aC,au,aq,aZ,bw,aD,aO,aN,aP,az,Int.zero_add,bV,bZ]
 rw [WM]
 dsimp? only [aB,aF,aG,aK,aC,au,aq,aZ,bw,aD,aO,aN,aP,az,Int.zero_add,bV,bZ]
 refine nM G P I (by decide) ?_
 (try dsimp? only)
 exact h
end Z
namespace Z
open PySem L2 TM
theorem WQ {ls:List Ln} {k a b:Nat} (G:Good (k+1) ls):∀ x∈unH ls k a b,Bq 22 x:=fun x hx=>by
 have hk:k<=3:=by have:=G.n4;omega
 have h6:=G.l
 obtain ⟨N,_⟩:=Ec (rs:=uR k a b) hk G.o G.cn (by simp [uR])
 have hxx:∀ r∈tZ ls k,∀ x∈r,Bd 6 x:=fun r hr x hxr=>by
  obtain ⟨i,_,rfl⟩:=List.mem_map.mp hr
  obtain ⟨j,_,rfl⟩:=List.mem_map.mp hxr
  have:=uD (i+1) (j+1) ls G.o
  exact iY (n:=6) (m:=64) (by omega) (by decide)
 have hy:∀ x∈uR k a b,Bd 6 x:=fun x hxr=>by
  obtain ⟨i,_,rfl⟩:=List.mem_map.mp hxr
  refine iY (n:=6) (m:=64) ?_ (by decide)
  unfold ind
  split <;> split <;> decide
 have htl:(tZ ls k).length=k:=by simp [tZ]
 have htr:∀ r∈tZ ls k,r.length=k:=fun r hr=>by
  obtain ⟨i,_,rfl⟩:=List.mem_map.mp hr
  simp
 have hD:dt (tZ ls k)≠0:=fun z=>N (by rw [z];rfl)
 have bD:=Gr hk htl htr hxx
 obtain ⟨y,hym,rfl⟩:=List.mem_map.mp hx
 have by':Bd 22 y:=by
  rcases List.mem_cons.mp hym with rfl | hym
  ·show 0<2 ^ 22;decide
  ·obtain ⟨j,hj,rfl⟩:=List.mem_map.mp hym
   exact Gr hk (zW htl (by simp [uR])) (zX htr (List.mem_range.mp hj)) (Fv hxx hy)
 have e:((y:Int):Rat) / ((dt (tZ ls k):Int):Rat)=Rat.divInt y (dt (tZ ls k)):=by rw [eX];grind
 rw [e]
 exact tL hD by' bD
end Z
namespace Z
open PySem L2
def eZ:dg:=fnS 3 1 false
 (aR (iM (aV 2 eU [.nam 0,.nam 1]))
 (aR (bK 3 (aV 2 dq [.val (aV 2 jJ [.nam 0,.nam 2]),.nam 1]))
 (aR (iM (lO lB 3 [.val (cC 2),.val (gH [.val (sC (.int 0)),.val (sC (.int 1))])]))
 (nU 3))))
def cA:dg:=fnS 3 1 false
 (aR (bK 3 (aV 2 cL [.val (gH [.val (aW 0 (.val (sC (.int 0)))),.val (sDo cI [.val (iQ (.val (aW 0 (.val (sC (.int 1))))) (.nam 2)),.val (dX (.val (aW 0 (.val (sC (.int 1))))) (.val (sDo cI [.nam 2,.val (sC (.int 1))])))])]),.nam 1]))
 (cT (sDo cI [.val (sDo cI [.val (iQ (.nam 3) (.nam 2)),.val (fH [.val (gH [.val (sC (.int 0)),.val (sC (.int 1))])])]),.val (dX (.nam 3) (.nam 2))])))
def dJ:dg:=fnS 2 10 true
 (aR (bK 2 (sDo dIx [.val (fH [.val (sC (.int 1)),.val (sC (.int 1)),.val (sC (.int 2)),.val (sC (.int 3))]),.val (cG 2 bh 0 [.val (sC (.int 4))])]))
 (aR (bK 3 (cG 2 bh 0 [.val (sC (.int 2))]))
 (aR (bK 4 (sDo cI [.val (sC (.int 1)),.val (sDo dIx [.val (fH [.val (cG 2 bh 0 [.val (sC (.int 12))]),.val (cG 2 gA 0 [.nam 2])]),.nam 3])]))
 (aR (bK 5 (fH [.val (sC (.int 0))]))
 (aR (il (mW (.val (sC (.int 1))) (.val (aW 1 (.val (sC (.int 0)))))) (gN 6)
 (aR (bK 7 (sDo dIx [.val (fH [.val (cG 2 bh 0 [.val (sC (.int 200))]),.val (cG 2 gA 0 [.nam 2])]),.nam 3]))
 (iM (lO gh 5 [.val (sDo dH [.nam 7,.val (sDo dIx [.val (fH [.val (sC (.int 1)),.val (sDo vg [.val (sC (.int 1))])]),.val (cG 2 bh 0 [.val (sC (.int 2))])])])]))))
 (aR (bK 8 (cO (gq (aW 1 (.val (sC (.int 1))))) 1 [5] (gN 0) (fu) (sDo dH [.val (aW 0 (.val (sC (.int 2)))),.val (sDo pN [.val (aW 1 (.val (aW 0 (.val (sC (.int 0)))))),.val (aW 1 (.val (aW 0 (.val (sC (.int 1))))))])])))
 (aR (bK 9 (sDo dH [.val (fH [.val (sC (.int 0))]),.val (aW 1 (.val (sC (.int 0))))]))
 (aR (il (Cr (aW 1 (.val (sC (.int 1)))) (cC 8)) (gT [gN 10,gN 11])
 (aR (jV 9 (sDo cI [.val (aW 9 (.val (aW 10 (.val (sC (.int 0)))))),.nam 11]) (.val (aW 10 (.val (sC (.int 0))))))
 (jV 9 (sDo pN [.val (aW 9 (.val (aW 10 (.val (sC (.int 1)))))),.nam 11]) (.val (aW 10 (.val (sC (.int 1))))))))
 (cT (cO (gq (fH [.val (cC 5),.val (cC 8),.val (cC 9)])) 1 [4] (gN 0) (fu) (cO (gq (cC 0)) 1 [1] (gN 0) (fu) (aV 2 bR [.nam 0,.nam 1]))))))))))))
def fZ:dg:=fnS 1 0 false
 (cT (cO (cZ (.val (sDo lL [.val (aW 0 (.val (sC (.int 1))))]))) 1 [0] (gN 0) (ph (.val (aV 2 gK [.val (aW 1 (.val (sC (.int 0)))),.val (sDo cI [.val (iQ (.val (aW 1 (.val (sC (.int 1))))) (.nam 0)),.val (dX (.val (aW 1 (.val (sC (.int 1))))) (.val (sDo cI [.nam 0,.val (sC (.int 1))])))])]))) (cC 0)))
def di:dg:=fnS 3 5 false
 (aR (bK 3 (aV 2 dq [.nam 0,.val (sDo jC [.nam 1])]))
 (aR (bK 4 (aV 3 mD [.nam 0,.val (sDo dIx [.val (sDo dIx [.val (aW 0 (.val (sC (.int 1)))),.nam 2]),.val (sC (.int 0))]),.val (sDo dIx [.val (sDo dIx [.val (aW 0 (.val (sC (.int 1)))),.nam 2]),.val (sC (.int 1))])]))
 (aR (bK 5 (aV 2 fO [.val (gH [.val (sC (.int 1)),.val (sC (.int 1))]),.val (aV 2 dz [.val (gH [.val (sDo vg [.val (sC (.int 1))]),.val (sC (.int 1))]),.val (aW 4 (.nam 2))])]))
 (aR (bK 6 (aV 2 dz [.val (aW 3 (.nam 2)),.val (aV 2 bR [.val (aW 5 (.val (sC (.int 1)))),.val (aW 5 (.val (sC (.int 0))))])]))
 (aR (bK 7 (cO (pZ (cC 3) (cC 4)) 2 [6] (gT [gN 0,gN 1]) (fu) (aV 2 fO [.nam 0,.val (aV 2 dz [.nam 2,.nam 1])])))
 (cT (sDo cI [.val (sDo cI [.val (iQ (.nam 7) (.nam 2)),.val (fH [.val (gH [.val (sC (.int 0)),.val (sC (.int 1))])])]),.val (dX (.nam 7) (.val (sDo cI [.nam 2,.val (sC (.int 1))])))])))))))
def jH:dg:=fnS 1 9 false
 (aR (il (cZ (.val (sDo Ir [.val (sC (.int 3)),.val (sDo Br [.val (sDo lL [.nam 0]),.val (sC (.int 6))])]))) (gN 1)
 (ue [2,3,4,5] (aR (bK 2 (aV 2 jW [.nam 0,.nam 1]))
 (aR (bK 3 (cG 1 jd 2 []))
 (aR (bK 4 (sDo dIx [.val (sFz (cG 2 dJ 2 [.nam 3])),.val (sC (.int 2))]))
 (aR (bK 5 (sDo jC [.nam 4]))
 (aR (il (gq (aV 1 fZ [.nam 3])) (gN 6)
 (ue [7] (aR (bK 7 (aV 3 cA [.nam 3,.nam 4,.nam 6]))
 (aR (il (cZ (.val (sC (.int 2)))) (gN 8)
 (ue [9] (aR (bK 9 (aV 3 eZ [.nam 3,.nam 5,.nam 6]))
 (aR (sIf (Du (kI (ph (.val (aV 2 fM [.nam 9,.nam 7])))) (tB' (sDo dNe [.nam 5,.nam 4])))
 (cT (sC (.bl false)))
 (eO))
 (aR (iM (lO gh 9 [.val (gH [.val (sC (.int 1)),.val (sC (.int 1))])]))
 (iM (lO oO 9 [])))))))
 (sIf (tB' (sDo dNe [.val (aV 3 di [.nam 3,.nam 4,.nam 6]),.nam 7]))
 (cT (sC (.bl false)))
 (eO))))))
 (sIf (kI (ph (.val (aV 2 fM [.val (aV 2 dq [.nam 3,.nam 5]),.val (aV 2 cL [.nam 3,.nam 4])]))))
 (cT (sC (.bl false)))
 (eO)))))))))
 (cT (sC (.bl true))))
end Z
namespace Z
open PySem L2 TM
theorem qj (x:Nat->Rat) (i:Nat):∀ (ls:List Ln) (q:Nat) (l:Ln),ls[q]? = some l->flow x ls i=(iZ i l.a - iZ i l.b)*((l.s:Int):Rat)*(x l.a - x l.b)+flow x (ls.eraseIdx q) i
 | [],_,_,h=>by simp at h
 | m :: ls,0,l,h=>by
  obtain rfl:m=l:=by simpa using h
  rfl
 | m :: ls,q+1,l,h=>by
  have ih:=qj x i ls q l (by simpa using h)
  show _+flow x ls i=_+(_+flow x (ls.eraseIdx q) i)
  rw [ih];grind
def cur (hs:List Rat) (l:Ln):Rat:=((l.s:Int):Rat)*(hs.getD l.a 0 - hs.getD l.b 0)
theorem Ds {ls:List Ln} {hs:List Rat} {q:Nat} {l:Ln} (h:ls[q]? = some l):(cP ls hs)[q]? = some (cur hs l):=by
 unfold cP
 rw [List.getElem?_map,h];rfl
theorem zU {k q:Nat} {ls:List Ln} {l:Ln} (G:Good (k+1) ls) (hq:ls[q]? = some l) (hc:Cn (k+1) (ls.eraseIdx q)):1 - cur (unH ls k l.a l.b) l≠0:=fun z=>by
 have I:=Ao (a:=l.a) (b:=l.b) G
 have o:=G.o l (List.mem_of_getElem? hq)
 have N:=qJ hc (jG G.o) (x:=fun j=>(unH ls k l.a l.b).getD j 0) I.z fun i g1 g2=>by
  have h1:=I.g i g1 g2
  rw [Am g2,qj _ i ls q l hq] at h1
  unfold cur at z
  grind
 have n1:=N l.a o.a
 have n2:=N l.b o.b
 unfold cur at z
 rw [n1,n2] at z
 grind
def nQ (ls:List Ln) (k:Nat) (l:Ln) (hs:List Rat):List Rat:=ye hs (wj (cur hs l*(1 - cur (unH ls k l.a l.b) l)⁻¹) (unH ls k l.a l.b))
theorem QQ {k q:Nat} {ls:List Ln} {l:Ln} {es hs:List Rat} (G:Good (k+1) ls) (hq:ls[q]? = some l) (hc:Cn (k+1) (ls.eraseIdx q)) (I:Is (k+1) ls es hs):Is (k+1) (ls.eraseIdx q) es (nQ ls k l hs):=by
 have U:=Ao (a:=l.a) (b:=l.b) G
 have N:=zU G hq hc
 have hh:hs.length=(wj (cur hs l*(1 - cur (unH ls k l.a l.b) l)⁻¹) (unH ls k l.a l.b)).length:=by rw [I.l];simp [wj,U.l]
 have g:∀ j,(nQ ls k l hs).getD j 0=hs.getD j 0+(cur hs l*(1 - cur (unH ls k l.a l.b) l)⁻¹)*(unH ls k l.a l.b).getD j 0:=fun j=>by
  unfold nQ;rw [xJ hh,wu]
 refine ⟨by unfold nQ;rw [Ot hh];exact I.l,by rw [g,I.z,U.z];grind,fun i g1 g2=>?_⟩
 have h1:=I.g i g1 g2
 have h2:=U.g i g1 g2
 rw [Am g2] at h2
 have e:(fun j=>(nQ ls k l hs).getD j 0)=fun j=>hs.getD j 0+(cur hs l*(1 - cur (unH ls k l.a l.b) l)⁻¹)*(unH ls k l.a l.b).getD j 0:=by funext j;exact g j
 rw [qj _ i ls q l hq] at h1 h2
 rw [e,vC,vG]
 have hcc:(cur hs l*(1 - cur (unH ls k l.a l.b) l)⁻¹)*(1 - cur (unH ls k l.a l.b) l)=cur hs l:=by
  rw [Rat.mul_assoc,Rat.inv_mul_cancel _ N,Rat.mul_one]
 generalize cur hs l*(1 - cur (unH ls k l.a l.b) l)⁻¹ = c at *
 unfold cur at hcc
 generalize flow (fun j=>hs.getD j 0) (ls.eraseIdx q) i=F1 at *
 generalize flow (fun j=>(unH ls k l.a l.b).getD j 0) (ls.eraseIdx q) i=F2 at *
 generalize hs.getD l.a 0 - hs.getD l.b 0=d1 at *
 generalize (unH ls k l.a l.b).getD l.a 0 - (unH ls k l.a l.b).getD l.b 0=d2 at *
 generalize iZ i l.a - iZ i l.b=t at *
 grind
theorem Jg {k:Nat} {ls:List Ln} {l:Ln} {hs:List Rat} (G:Good (k+1) ls) (hl:hs.length=k+1):cP ls (nQ ls k l hs)=((cP ls hs).zip (cP ls (unH ls k l.a l.b))).map fun p=>p.1+(cur hs l*(1 - cur (unH ls k l.a l.b) l)⁻¹)*p.2:=by
 have U:=Ao (a:=l.a) (b:=l.b) G
 unfold nQ
 rw [Oq (by rw [hl];simp [wj,U.l]),Oo]
 unfold ye wj
 rw [List.zip_map_right,List.map_map];rfl
theorem Ol {ls:List Ln} {hs:List Rat} {q:Nat} (hq:q<ls.length):(cP (ls.eraseIdx q) hs).take q++0 :: (cP (ls.eraseIdx q) hs).drop q=(cP ls hs).take q++0 :: (cP ls hs).drop (q+1):=by
 have e:cP (ls.eraseIdx q) hs=(cP ls hs).take q++(cP ls hs).drop (q+1):=by
  unfold cP
  rw [List.eraseIdx_eq_take_drop_succ,List.map_append,List.map_take,List.map_drop]
 have tl:((cP ls hs).take q).length=q:=by rw [List.length_take];simp [cP];omega
 rw [e,List.take_left' tl,List.drop_left' tl]
end Z
namespace Z
open PySem L2 TM
theorem RW:∀ r:Nat,r<4 -> ∃ n:Nat,1<=n∧n<=5∧dIx [.lst true [.int 1,.int 1,.int 2,.int 3],.int (r:Int)]=some (.int n)
 | 0,_=>⟨1,by decide,by decide,rfl⟩
 | 1,_=>⟨1,by decide,by decide,rfl⟩
 | 2,_=>⟨2,by decide,by decide,rfl⟩
 | 3,_=>⟨3,by decide,by decide,rfl⟩
 | n+4,h=>by omega
theorem vR {bag:D} {n:Nat} {ls:List Ln} (hB:Bag bag) (G:Good n ls) {Q:D->Option D->Prop}
  (h:∀ (bag':D) (hs:List Rat),Bag bag'->hs.length=n->hs.getD 0 0=0->(∀ x∈hs,Bq 101 x)->(∀ x∈lW n ls hs,Bq 120 x) ->
   Q (.lst true [.lst true (hs.map fr),.lst true ((cP ls hs).map fr),.lst true ((lW n ls hs).map fr)]) (some bag')):dJ [bag,fD n ls] Q:=by
 have es:dJ=fnS 2 10 true (aR (bK 2 (sDo dIx [.val (fH [.val (sC (.int 1)),.val (sC (.int 1)),.val (sC (.int 2)),.val (sC (.int 3))]),.val (cG 2 bh 0 [.val (sC (.int 4))])])) (aR (bK 3 (cG 2 bh 0 [.val (sC (.int 2))])) (aR (bK 4 (sDo cI [.val (sC (.int 1)),.val (sDo dIx [.val (fH [.val (cG 2 bh 0 [.val (sC (.int 12))]),.val (cG 2 gA 0 [.nam 2])]),.nam 3])])) qR))):=by unfold dJ qR;with_reducible rfl
 rw [es]
 dsimp? only
 refine cF (many:=4) hB (by decide) fun bag1 r1 hB1 hr1=>?_
 obtain ⟨s,hs1,hs2,hix⟩:=RW r1 hr1
 have hps:1000000 ^ s<=1000000 ^ 5:=Nat.pow_le_pow_right (by decide) hs2
 have hp5:(1000000:Nat) ^ 5=1000000000000000000000000000000:=by decide
 dsimp? only [hB1.clean,hix]
 refine cF (many:=2) hB1 (by decide) fun bag2 r hB2 hr=>?_
 dsimp? only [hB2.clean]
 refine cF (many:=12) hB2 (by decide) fun bag3 x hB3 hx=>?_
 dsimp? only [hB3.clean]
 refine tX (s:=s) hB3 (by omega) fun bag4 y hB4 hy=>?_
 obtain ⟨z,hz,hix'⟩:=Nq x y r hr
 obtain ⟨b,hb,hb1,hb2⟩:∃ b:Nat,1+z=(b:Int)∧1<=b∧b<=1000000 ^ 5:=by
  rcases hz with rfl | rfl
  ·exact ⟨1+x,by omega,by omega,by omega⟩
  ·exact ⟨1+y,by omega,by omega,by omega⟩
 dsimp? only [hB4.clean,hix',hb]
 have t:=zE hB4 G hs2 hr hb1 hb2 h
 simp only [Eo] at t
 exact t
theorem Ko {n:Nat} {ls:List Ln} {i:Nat} (h:i∈due n ls):i<ls.length∧J n (ls.eraseIdx i)=true:=by
 obtain ⟨h1,h2⟩:=List.mem_filter.mp h
 exact ⟨List.mem_range.mp h1,h2⟩
theorem Good.less2 {n:Nat} {ls:List Ln} (G:Good n ls) {i:Nat} (h:J n (ls.eraseIdx i)=true):Good n (ls.eraseIdx i):=⟨G.n1,G.n4,by have:=G.l;rw [List.length_eraseIdx];split <;> omega,jG G.o,h⟩
def bhA:cD:=bK 3 (aV 2 dq [.val (aV 2 jJ [.nam 0,.nam 2]),.nam 1])
theorem Ik:eZ=fnS 3 1 false
 (aR (iM (aV 2 eU [.nam 0,.nam 1]))
 (aR bhA
 (aR (iM (lO lB 3 [.val (cC 2),.val (gH [.val (sC (.int 0)),.val (sC (.int 1))])]))
 (nU 3)))):=by unfold eZ bhA;with_reducible rfl
theorem Il {m n i:Nat} {ls:List Ln} {es hs:List Rat} (G:Good n ls) (hil:i<ls.length) (hJ:J n (ls.eraseIdx i)=true) (P:Puts n m es) (hm:m<=20000) (I:Is n (ls.eraseIdx i) es hs) {Q:D->Option D->Prop}
  (h:Q (.lst true (((cP (ls.eraseIdx i) hs).take i++0 :: (cP (ls.eraseIdx i) hs).drop i).map fr)) none):eZ [fD n ls,.lst false (es.map fr),.int (i:Int)] Q:=by
 have G':=G.less2 hJ
 have h6:=G.l
 rw [Ik]
 dsimp? only [bZ,bV,aB,aF,aG,aK,aC,au,aq,aZ,bw,aD,aO,aN,aP,az,Int.zero_add]
 refine pX P.l G.n4 P.b (by omega) P.z ?_
 dsimp? only [bZ,bV,aB,aF,aG,aK,aC,au,aq,aZ,bw,aD,aO,aN,aP,az,Int.zero_add]
 unfold bhA
 rw [zj,pC,fQ,pC]
 dsimp? only [bZ,bV,aB,aF,aG,aK,aC,au,aq,aZ,bw,aD,aO,aN,aP,az,Int.zero_add]
 refine Gd G.n4 hil (by omega) G.o hJ ?_
 dsimp? only [bZ,bV,lU,aB,aF,aG,aK,aC,au,aq,aZ,bw,aD,aO,aN,aP,az,Int.zero_add]
 refine nM G' P I hm ?_
 have hll:(cP (ls.eraseIdx i) hs).length=ls.length - 1:=by
  simp only [cP,List.length_map]
  rw [List.length_eraseIdx,if_pos hil]
 have hins:=oN (ds:=(cP (ls.eraseIdx i) hs).map fr) (a:=i) (d:=fr 0) (by rw [List.length_map,hll];omega) (by rw [List.length_map,hll];omega)
 have e2:((cP (ls.eraseIdx i) hs).map fr).take i++fr 0 :: ((cP (ls.eraseIdx i) hs).map fr).drop i=((cP (ls.eraseIdx i) hs).take i++0 :: (cP (ls.eraseIdx i) hs).drop i).map fr:=by
  rw [List.map_append,List.map_cons,List.map_take,List.map_drop]
 rw [e2] at hins
 dsimp? only [bZ,bV,lU,aB,aF,aG,aK,aC,au,aq,aZ,bw,aD,aO,aN,aP,az,Int.zero_add,nP,hins]
 exact h
theorem Io {n:Nat} {ls:List Ln} (G:Good n ls) {Q:D->Option D->Prop} (h:Q (.lst true ((due n ls).map fun i=>D.int ((i:Nat):Int))) none):fZ [fD n ls] Q:=by
 have p62:(2:Int) ^ 62=4611686018427387904:=by decide
 have h6:=G.l
 dsimp? only [fZ,jj,cB,List.length_map]
 have e1:(ls.length:Int).toNat=ls.length:=by omega
 rw [e1]
 refine bC ⟨by omega,by omega,by omega⟩ ?_
 (try dsimp? only)
 rw [rB]
 refine qg (fun k:Nat=>D.int (k:Int)) (fun k:Nat=>D.int (k:Int)) (fun i=>J n (ls.eraseIdx i)) (fun ρ => ∃ x,ρ = [x,some (fD n ls)]) ⟨_,rfl⟩ ?_ ?_
 ·rintro i hi ρ ⟨x,rfl⟩ PT PF hT hF
  have hi':i<ls.length:=by simpa using hi
  have h2:(ls.eraseIdx i).length<=100:=by rw [List.length_eraseIdx];split <;> omega
  have ec:(i:Int)+1=((i+1:Nat):Int):=by omega
  have s1:=Og (ls.map Ln.d) (i:=i) (dF ls) (by rw [List.length_map];omega)
  have s2:=Dq (ls.map Ln.d) (i:=i+1) (dF ls) (by rw [List.length_map];omega)
  have la:=sX (ls:=ls) (i:=i) (by omega)
  dsimp? only [↓dX,↓iQ,iJ,jj,cB,ec,s1,s2,la,dF,gY,bZ]
  refine xV G.n4 h2 (jG G.o) ?_
  dsimp? only
  rw [← Xd G.n1 (jG G.o)]
  cases hJ:J n (ls.eraseIdx i) with
  | true=>
   dsimp? only [bV,lU]
   exact hT hJ _ ⟨_,rfl⟩
  | false=>
   dsimp? only [bV,lU]
   exact hF hJ _ ⟨_,rfl⟩
 rintro ρ ⟨x,rfl⟩
 (try dsimp? only)
 exact h
end Z
namespace Z
open PySem L2 TM
def Fw:cD:=(cT (sDo cI [.val (sDo cI [.val (iQ (.nam 3) (.nam 2)),.val (fH [.val (gH [.val (sC (.int 0)),.val (sC (.int 1))])])]),.val (dX (.nam 3) (.nam 2))]))
theorem Yo:cA=fnS 3 1 false
 (aR (bK 3 (aV 2 cL [.val (gH [.val (aW 0 (.val (sC (.int 0)))),.val (sDo cI [.val (iQ (.val (aW 0 (.val (sC (.int 1))))) (.nam 2)),.val (dX (.val (aW 0 (.val (sC (.int 1))))) (.val (sDo cI [.nam 2,.val (sC (.int 1))])))])]),.nam 1]))
 Fw):=by unfold cA Fw;with_reducible rfl
theorem rG {ls:List Ln} {hs:List Rat}:(cP ls hs).length=ls.length:=by simp [cP]
theorem Hh {xs ys:List Rat} {o1 o2 o3:Bool} (h1:xs.length<=100) (h2:ys.length<=100) :
  cI [.lst o1 (xs.map fr),.lst o2 [fr 0]]=some (.lst true ((xs++[0]).map fr))∧cI [.lst o3 ((xs++[0]).map fr),.lst o2 (ys.map fr)]=some (.lst true ((xs++0 :: ys).map fr)):=by
 refine ⟨?_,?_⟩
 ·show cI [.lst o1 (xs.map fr),.lst o2 ([(0:Rat)].map fr)]=_
  rw [iH _ _ _ _ (by rw [sizeLine_eq,List.length_map,List.length_map];simp only [List.length_cons,List.length_nil];omega) (aC _) (aC _),← List.map_append]
 ·rw [iH _ _ _ _ (by rw [sizeLine_eq,List.length_map,List.length_map,List.length_append];simp only [List.length_cons,List.length_nil];omega) (aC _) (aC _),← List.map_append,List.append_assoc];rfl
theorem wW {m n q:Nat} {ls:List Ln} {es hs:List Rat} (G:Good n ls) (hq:q<ls.length) (hJ:J n (ls.eraseIdx q)=true) (P:Puts n m es) (hm:m<=1000) (I:Is n (ls.eraseIdx q) es hs) {Q:D->Option D->Prop}
  (h:Q (.lst true (((cP (ls.eraseIdx q) hs).take q++0 :: (cP (ls.eraseIdx q) hs).drop q).map fr)) none):cA [fD n ls,.lst false (es.map fr),.int (q:Int)] Q:=by
 have h6:=G.l
 have ec:(q:Int)+1=((q+1:Nat):Int):=by omega
 have s1:=Og (ls.map Ln.d) (i:=q) (dF ls) (by rw [List.length_map];omega)
 have s2:=Dq (ls.map Ln.d) (i:=q+1) (dF ls) (by rw [List.length_map];omega)
 have la:=sX (ls:=ls) (i:=q) (by omega)
 rw [cB] at la
 have sl:(cP (ls.eraseIdx q) hs).length=ls.length - 1:=by rw [rG,List.length_eraseIdx,if_pos hq]
 have t1:=uM true ((cP (ls.eraseIdx q) hs).map fr) (i:=q) (aC _) (by rw [List.length_map];omega)
 have t2:=iD true ((cP (ls.eraseIdx q) hs).map fr) (i:=q) (aC _) (by rw [List.length_map];omega)
 rw [← List.map_take] at t1
 rw [← List.map_drop] at t2
 obtain ⟨a1,a2⟩:=Hh (xs:=(cP (ls.eraseIdx q) hs).take q) (ys:=(cP (ls.eraseIdx q) hs).drop q) (o1:=true) (o2:=true) (o3:=true) (by rw [List.length_take];omega) (by rw [List.length_drop];omega)
 rw [Yo]
 dsimp? only [↓dX,↓iQ,iJ,jj,cB,ec,s1,s2,la,dF,gY,bZ,bV,aB,aF,aG,aK,aC,au,aq,aZ,bw,aD,aO,aN,aP,az,Int.zero_add]
 refine oH (G.less2 hJ) P I hm ?_
 dsimp? only [Fw,↓dX,↓iQ,bZ,bV,lU,aB,aF,aG,aK,aC,au,aq,aZ,bw,aD,aO,aN,aP,az,Int.zero_add,t1,t2,nP,a1,a2]
 exact h
end Z
namespace Z
open PySem L2 TM
def bsD:cD:=(cT (sDo cI [.val (sDo cI [.val (iQ (.nam 7) (.nam 2)),.val (fH [.val (gH [.val (sC (.int 0)),.val (sC (.int 1))])])]),.val (dX (.nam 7) (.val (sDo cI [.nam 2,.val (sC (.int 1))])))]))
def bsC:cD:=(aR (bK 7 (cO (pZ (cC 3) (cC 4)) 2 [6] (gT [gN 0,gN 1]) (fu) (aV 2 fO [.nam 0,.val (aV 2 dz [.nam 2,.nam 1])])))
 bsD)
def bsB:cD:=(aR (bK 6 (aV 2 dz [.val (aW 3 (.nam 2)),.val (aV 2 bR [.val (aW 5 (.val (sC (.int 1)))),.val (aW 5 (.val (sC (.int 0))))])]))
 bsC)
def bsA:cD:=(aR (bK 5 (aV 2 fO [.val (gH [.val (sC (.int 1)),.val (sC (.int 1))]),.val (aV 2 dz [.val (gH [.val (sDo vg [.val (sC (.int 1))]),.val (sC (.int 1))]),.val (aW 4 (.nam 2))])]))
 bsB)
theorem Xi:di=fnS 3 5 false
 (aR (bK 3 (aV 2 dq [.nam 0,.val (sDo jC [.nam 1])]))
 (aR (bK 4 (aV 3 mD [.nam 0,.val (sDo dIx [.val (sDo dIx [.val (aW 0 (.val (sC (.int 1)))),.nam 2]),.val (sC (.int 0))]),.val (sDo dIx [.val (sDo dIx [.val (aW 0 (.val (sC (.int 1)))),.nam 2]),.val (sC (.int 1))])]))
 bsA)):=by unfold di bsA bsB bsC bsD;with_reducible rfl
theorem Ug {q:Nat} {c:Rat} {fs gs:List Rat} (hl:fs.length<=6) (hg:gs.length=fs.length) (hq:q<fs.length) (hc:Bq 300 c) (hf:∀ x∈fs,Bq 300 x) (hb:∀ x∈gs,Bq 300 x) {x0 x1 x5 x7:Option D} {o3 o4:Bool} {E:EndD}
  (h:∀ ρ,E.rt (.lst true (((((fs.zip gs).map fun p=>p.1+c*p.2).take q)++0 :: ((fs.zip gs).map fun p=>p.1+c*p.2).drop (q+1)).map fr)) ρ) :
  bsC [x0,x1,some (.int (q:Int)),some (.lst o3 (fs.map fr)),some (.lst o4 (gs.map fr)),x5,some (fr c),x7] E:=by
 have ec:(q:Int)+1=((q+1:Nat):Int):=by omega
 have zl:((fs.zip gs).map fun p=>p.1+c*p.2).length=fs.length:=by rw [List.length_map,List.length_zip];omega
 have t1:=uM true (((fs.zip gs).map fun p=>p.1+c*p.2).map fr) (i:=q) (aC _) (by rw [List.length_map];omega)
 have t2:=iD true (((fs.zip gs).map fun p=>p.1+c*p.2).map fr) (i:=q+1) (aC _) (by rw [List.length_map];omega)
 rw [← List.map_take] at t1
 rw [← List.map_drop] at t2
 obtain ⟨a1,a2⟩:=Hh (xs:=((fs.zip gs).map fun p=>p.1+c*p.2).take q) (ys:=((fs.zip gs).map fun p=>p.1+c*p.2).drop (q+1)) (o1:=true) (o2:=true) (o3:=true) (by rw [List.length_take];omega) (by rw [List.length_drop];omega)
 cases o3 <;> cases o4 <;> (
  dsimp? only [bsC,aB,aF,aG,aK,aC,au,aq,aZ,bw,aD,aO,aN,aP,az,Int.zero_add,List.length_map]
  refine bC (by omega) ?_
  dsimp? only [aB,aF,aG,aK,aC,au,aq,aZ,bw,aD,aO,aN,aP,az,Int.zero_add,xQ]
  refine bY (fun p:Rat×Rat=>D.tup [fr p.1,fr p.2]) (fun p=>fr (p.1+c*p.2)) (fun ρ => ∃ x y,ρ = [x,y,some (fr c)]) ⟨_,_,rfl⟩ ?_ ?_
  ·rintro ⟨p,r⟩ hp ρ ⟨x,y,rfl⟩ P' hP
   rw [Lp]
   dsimp? only [aB,aF,aG,aK,aC,au,aq,aZ,bw,aD,aO,aN,aP,az,Int.zero_add]
   refine mY hc (hb r (List.of_mem_zip hp).2) (by decide) ?_
   dsimp? only [aB,aF,aG,aK,aC,au,aq,aZ,bw,aD,aO,aN,aP,az,Int.zero_add]
   refine ud (hf p (List.of_mem_zip hp).1) (rY hc (hb r (List.of_mem_zip hp).2)) (by decide) ?_
   dsimp? only [aB,aF,aG,aK,aC,au,aq,aZ,bw,aD,aO,aN,aP,az,Int.zero_add]
   exact hP _ ⟨_,_,rfl⟩
  rintro ρ ⟨x,y,rfl⟩
  have em:(fs.zip gs).map (fun p=>fr (p.1+c*p.2))=((fs.zip gs).map fun p=>p.1+c*p.2).map fr:=by rw [List.map_map];rfl
  rw [em]
  generalize ((fs.zip gs).map fun p=>p.1+c*p.2)=ws at *
  dsimp? only [bsD,↓dX,↓iQ,aB,aF,aG,aK,aC,au,aq,aZ,bw,aD,aO,aN,aP,az,Int.zero_add,ec,t1,t2,nP,a1,a2]
  exact h _)
end Z
namespace Z
open PySem L2 TM
theorem Nb (g:Rat):(1:Rat)+((-1:Int):Rat)*g=1 - g:=by
 show 1+(-1:Rat)*g=_
 grind
theorem Im {m:Nat} {r:Rat} (h:Bq m r) (hr:r≠0):Bq m r⁻¹:=by
 rw [Rat.inv_def]
 exact tL (fun z=>hr (Rat.num_eq_zero.mp z)) h.2 h.1
theorem yV {k q:Nat} {ls:List Ln} {l:Ln} {es hs:List Rat} (G:Good (k+1) ls) (hq:ls[q]? = some l) (hc:Cn (k+1) (ls.eraseIdx q)) (P:Puts (k+1) 120 es) (I:Is (k+1) ls es hs) (hb:∀ x∈hs,Bq 101 x) {Q:D->Option D->Prop}
  (h:Q (.lst true (((cP ls (nQ ls k l hs)).take q++0 :: (cP ls (nQ ls k l hs)).drop (q+1)).map fr)) none):di [fD (k+1) ls,.lst false (es.map fr),.int (q:Int)] Q:=by
 have h6:=G.l
 have ql:q<ls.length:=(List.getElem?_eq_some_iff.mp hq).1
 have o:=G.o l (List.mem_of_getElem? hq)
 have U:=Ao (a:=l.a) (b:=l.b) G
 have N:=zU G hq hc
 have bf:=Ie G.o I.l hb
 have bg:=Ie G.o U.l (WQ G)
 have cf:=Ds (hs:=hs) hq
 have cg:=Ds (hs:=unH ls k l.a l.b) hq
 have cfb:=bf _ (List.mem_of_getElem? cf)
 have cgb:=bg _ (List.mem_of_getElem? cg)
 have br:Bq 51 (1 - cur (unH ls k l.a l.b) l):=yS bq1 cgb
 have bi:=Im br N
 have ix:=Ul hq
 unfold cB at ix
 have x0:dIx [.tup [.int (l.a:Int),.int (l.b:Int),.int (l.s:Int),.int (l.m:Int)],.int 0]=some (.int (l.a:Int)):=rfl
 have x1:dIx [.tup [.int (l.a:Int),.int (l.b:Int),.int (l.s:Int),.int (l.m:Int)],.int 1]=some (.int (l.b:Int)):=rfl
 have lf:(cP ls hs).length=ls.length:=rG
 have lg:(cP ls (unH ls k l.a l.b)).length=ls.length:=rG
 have i3:=pD (o:=true) cf
 have i4:=pD (o:=true) cg
 have e:=Jg (l:=l) G I.l
 rw [e] at h
 rw [Xi]
 dsimp? only [bZ,bV,aB,aF,aG,aK,aC,au,aq,aZ,bw,aD,aO,aN,aP,az,Int.zero_add]
 refine nM G P I (by decide) ?_
 dsimp? only [bZ,bV,aB,aF,aG,aK,aC,au,aq,aZ,bw,aD,aO,aN,aP,az,Int.zero_add,jj,cB,ix,Ln.d,x0,x1]
 refine JB G o.a o.b U ?_
 unfold bsA
 dsimp? only [bZ,bV,aB,aF,aG,aK,aC,au,aq,aZ,bw,aD,aO,aN,aP,az,Int.zero_add,i4,Fl,Ma]
 refine mY JT cgb (by decide) ?_
 dsimp? only [bZ,bV,aB,aF,aG,aK,aC,au,aq,aZ,bw,aD,aO,aN,aP,az,Int.zero_add]
 refine ud bq1 (rY JT cgb) (by decide) ?_
 rw [Nb]
 unfold bsB
 dsimp? only [bZ,bV,aB,aF,aG,aK,aC,au,aq,aZ,bw,aD,aO,aN,aP,az,Int.zero_add,i3,mX,lN]
 refine lY (fun z=>N (Rat.num_eq_zero.mp z)) ?_
 rw [← Rat.inv_def]
 dsimp? only [bZ,bV,aB,aF,aG,aK,aC,au,aq,aZ,bw,aD,aO,aN,aP,az,Int.zero_add]
 refine mY cfb bi (by decide) ?_
 dsimp? only [bZ,bV,aB,aF,aG,aK,aC,au,aq,aZ,bw,aD,aO,aN,aP,az,Int.zero_add]
 refine Ug (by omega) (by omega) (by omega) ((rY cfb bi).mono (by decide)) (fun x hx=>(bf x hx).mono (by decide)) (fun x hx=>(bg x hx).mono (by decide)) fun ρ => ?_
 dsimp? only [aB,aF,aG,aK,aC,au,aq,aZ,bw,aD,aO,aN,aP,az,Int.zero_add]
 exact h
end Z
namespace Z
open PySem L2 TM
def QH:cD:=(ue [9] (aR (bK 9 (aV 3 eZ [.nam 3,.nam 5,.nam 6]))
 (aR (sIf (Du (kI (ph (.val (aV 2 fM [.nam 9,.nam 7])))) (tB' (sDo dNe [.nam 5,.nam 4])))
 (cT (sC (.bl false)))
 (eO))
 (aR (iM (lO gh 9 [.val (gH [.val (sC (.int 1)),.val (sC (.int 1))])]))
 (iM (lO oO 9 []))))))
def Va:cD:=(sIf (tB' (sDo dNe [.val (aV 3 di [.nam 3,.nam 4,.nam 6]),.nam 7]))
 (cT (sC (.bl false)))
 (eO))
def QF:cD:=(ue [7] (aR (bK 7 (aV 3 cA [.nam 3,.nam 4,.nam 6]))
 (aR (il (cZ (.val (sC (.int 2)))) (gN 8)
 QH)
 Va)))
def Qy:cD:=(sIf (kI (ph (.val (aV 2 fM [.val (aV 2 dq [.nam 3,.nam 5]),.val (aV 2 cL [.nam 3,.nam 4])]))))
 (cT (sC (.bl false)))
 (eO))
def Qw:cD:=(aR (il (gq (aV 1 fZ [.nam 3])) (gN 6)
 QF)
 Qy)
def QC:cD:=(ue [2,3,4,5] (aR (bK 2 (aV 2 jW [.nam 0,.nam 1]))
 (aR (bK 3 (cG 1 jd 2 []))
 (aR (bK 4 (sDo dIx [.val (sFz (cG 2 dJ 2 [.nam 3])),.val (sC (.int 2))]))
 (aR (bK 5 (sDo jC [.nam 4]))
 Qw)))))
theorem Vb:jH=fnS 1 9 false
 (aR (il (cZ (.val (sDo Ir [.val (sC (.int 3)),.val (sDo Br [.val (sDo lL [.nam 0]),.val (sC (.int 6))])]))) (gN 1)
 QC)
 (cT (sC (.bl true)))):=by
 unfold jH QC Qw Qy QF Va QH;with_reducible rfl
theorem Vn {ds:List D} {d:D} (h:ds.length<=100):gh ds [d]=some (ds++[d],.non):=vW _ _ (by rw [sizeLine_eq];omega)
theorem Vp (ds:List D):oO ds []=some (ds.reverse,.non):=rfl
theorem Sv (x y z:D) (h:z.sh=true):dIx [.lst false [x,y,z],.int 2]=some z:=qF _ _ rfl h
theorem QJ {n q:Nat} {ls:List Ln} {es hs ws:List Rat} (hw:ws=(cP (ls.eraseIdx q) hs).take q++0 :: (cP (ls.eraseIdx q) hs).drop q) (G:Good n ls) (hq:q<ls.length) (hJ:J n (ls.eraseIdx q)=true) (P:Puts n 120 es) (I:Is n (ls.eraseIdx q) es hs) {x0 x1 x2 x8 x9:Option D} {E:EndD}
  (hE:∀ x9,E.nx [x0,x1,x2,some (fD n ls),some (.lst false (es.map fr)),some (.lst true (es.map fr)),some (.int (q:Int)),some (.lst true (ws.map fr)),x8,x9]) :
  QH [x0,x1,x2,some (fD n ls),some (.lst false (es.map fr)),some (.lst true (es.map fr)),some (.int (q:Int)),some (.lst true (ws.map fr)),x8,x9] E:=by
 have h6:=G.l
 have sl:(cP (ls.eraseIdx q) hs).length<=6:=by rw [rG,List.length_eraseIdx];split <;> omega
 have wl:ws.length<=100:=by rw [hw,List.length_append,List.length_cons,List.length_take,List.length_drop];omega
 have ma:=Vn (ds:=ws.map fr) (d:=.tup [.int 1,.int 1]) (by rw [List.length_map];exact wl)
 dsimp? only [QH,bZ,bV,aB,aF,aG,aK,aC,au,aq,aZ,bw,aD,aO,aN,aP,az,Int.zero_add]
 refine Il G hq hJ P (by decide) I ?_
 rw [← hw]
 dsimp? only [bZ,bV,aB,aF,aG,aK,aC,au,aq,aZ,bw,aD,aO,aN,aP,az,Int.zero_add]
 refine tY wl ?_
 dsimp? only [bZ,bV,aB,aF,aG,aK,aC,au,aq,aZ,bw,aD,aO,aN,aP,az,Int.zero_add,MF]
 rw [ma]
 dsimp? only [bZ,bV,aB,aF,aG,aK,aC,au,aq,aZ,bw,aD,aO,aN,aP,az,Int.zero_add,Vp]
 exact hE _
theorem QG {k q:Nat} {ls:List Ln} {es hs:List Rat} (G:Good (k+1) ls) (hd:q∈due (k+1) ls) (P:Puts (k+1) 120 es) (I:Is (k+1) ls es hs) (hb:∀ x∈hs,Bq 101 x) {x0 x1 x2 x7 x8 x9:Option D} {E:EndD}
  (hE:∀ x7 x8 x9,E.nx [x0,x1,x2,some (fD (k+1) ls),some (.lst false (es.map fr)),some (.lst true (es.map fr)),some (.int (q:Int)),x7,x8,x9]) :
  QF [x0,x1,x2,some (fD (k+1) ls),some (.lst false (es.map fr)),some (.lst true (es.map fr)),some (.int (q:Int)),x7,x8,x9] E:=by
 have p62:(2:Int) ^ 62=4611686018427387904:=by decide
 obtain ⟨hq,hJ⟩:=Ko hd
 have hl:ls[q]? = some ls[q]:=List.getElem?_eq_getElem hq
 have hc:=(Gf G.n1 (jG G.o)).mp hJ
 have I':=QQ G hl hc I
 unfold QF
 rw [zg]
 dsimp? only [qi,sO,bZ,bV,aB,aF,aG,aK,aC,au,aq,aZ,bw,aD,aO,aN,aP,az,Int.zero_add]
 refine wW G hq hJ P (by decide) I' ?_
 have eg:=Ol (ls:=ls) (hs:=nQ ls k ls[q] hs) hq
 generalize hw:(cP (ls.eraseIdx q) (nQ ls k ls[q] hs)).take q++0 :: (cP (ls.eraseIdx q) (nQ ls k ls[q] hs)).drop q=ws at eg
 dsimp? only [bZ,bV,aB,aF,aG,aK,aC,au,aq,aZ,bw,aD,aO,aN,aP,az,Int.zero_add,p62]
 refine bC (by decide) ?_
 dsimp? only [bZ,bV,aB,aF,aG,aK,aC,au,aq,aZ,bw,aD,aO,aN,aP,az,Int.zero_add]
 refine cR (fun _ ρ => ∃ x8 x9,ρ = [x0,x1,x2,some (fD (k+1) ls),some (.lst false (es.map fr)),some (.lst true (es.map fr)),some (.int (q:Int)),some (.lst true (ws.map fr)),x8,x9]) 0 ⟨_,_,rfl⟩ ?_ ?_
 ·rintro i d ρ hd ⟨x8,x9,rfl⟩ P' hP
  (try dsimp? only)
  exact QJ hw.symm G hq hJ P I' fun x9=>hP _ ⟨_,_,rfl⟩
 rintro ρ ⟨x8,x9,rfl⟩
 unfold Va
 dsimp only
 rw [Ky,Up,Gy,fQ,pC]
 dsimp? only [bZ,bV,aB,aF,aG,aK,aC,au,aq,aZ,bw,aD,aO,aN,aP,az,Int.zero_add]
 refine yV G hl hc P I hb ?_
 rw [← eg]
 dsimp? only [bZ,bV,aB,aF,aG,aK,aC,au,aq,aZ,bw,aD,aO,aN,aP,az,Int.zero_add,MF]
 exact hE _ _ _
theorem Qz {n:Nat} {ls:List Ln} {es hs:List Rat} (G:Good n ls) (P:Puts n 120 es) (I:Is n ls es hs) {x0 x1 x2 x6 x7 x8 x9:Option D} {E:EndD}
  (hE:∀ x5,E.nx [x0,x1,x2,some (fD n ls),some (.lst false (es.map fr)),x5,x6,x7,x8,x9]) :
  Qy [x0,x1,x2,some (fD n ls),some (.lst false (es.map fr)),some (.lst true (es.map fr)),x6,x7,x8,x9] E:=by
 have h6:=G.l
 have sl:(cP ls hs).length<=100:=by rw [rG];omega
 dsimp? only [Qy,bZ,bV,aB,aF,aG,aK,aC,au,aq,aZ,bw,aD,aO,aN,aP,az,Int.zero_add]
 refine nM G P I (by decide) ?_
 dsimp? only [bZ,bV,aB,aF,aG,aK,aC,au,aq,aZ,bw,aD,aO,aN,aP,az,Int.zero_add]
 refine oH G P I (by decide) ?_
 dsimp? only [bZ,bV,aB,aF,aG,aK,aC,au,aq,aZ,bw,aD,aO,aN,aP,az,Int.zero_add]
 refine tY sl ?_
 dsimp? only [bZ,bV,aB,aF,aG,aK,aC,au,aq,aZ,bw,aD,aO,aN,aP,az,Int.zero_add]
 exact hE _
theorem Qx {k:Nat} {ls:List Ln} {es hs:List Rat} (G:Good (k+1) ls) (P:Puts (k+1) 120 es) (I:Is (k+1) ls es hs) (hb:∀ x∈hs,Bq 101 x) {x0 x1 x2 x6 x7 x8 x9:Option D} {E:EndD}
  (hE:∀ x5 x6 x7 x8 x9,E.nx [x0,x1,x2,some (fD (k+1) ls),some (.lst false (es.map fr)),x5,x6,x7,x8,x9]) :
  Qw [x0,x1,x2,some (fD (k+1) ls),some (.lst false (es.map fr)),some (.lst true (es.map fr)),x6,x7,x8,x9] E:=by
 have h6:=G.l
 have dl:(due (k+1) ls).length<=6:=by
  have:=List.length_filter_le (fun i=>J (k+1) (ls.eraseIdx i)) (List.range ls.length)
  rw [List.length_range] at this
  unfold due;omega
 have fd:D.fzs ((due (k+1) ls).map fun i=>D.int ((i:Nat):Int))=(due (k+1) ls).map fun i=>D.int ((i:Nat):Int):=jh _ (fun _=>rfl) _
 have sd:D.shs ((due (k+1) ls).map fun i=>D.int ((i:Nat):Int))=true:=gm _ (fun _=>rfl) _
 dsimp? only [Qw,bZ,bV,aB,aF,aG,aK,aC,au,aq,aZ,bw,aD,aO,aN,aP,az,Int.zero_add]
 refine Io G ?_
 dsimp? only [bZ,bV,aB,aF,aG,aK,aC,au,aq,aZ,bw,aD,aO,aN,aP,az,Int.zero_add,fd,sd,List.length_map]
 refine bC (by omega) ?_
 dsimp? only [bZ,bV,aB,aF,aG,aK,aC,au,aq,aZ,bw,aD,aO,aN,aP,az,Int.zero_add,fd,sd]
 refine cR (fun _ ρ => ∃ x6 x7 x8 x9,ρ = [x0,x1,x2,some (fD (k+1) ls),some (.lst false (es.map fr)),some (.lst true (es.map fr)),x6,x7,x8,x9]) 0 ⟨_,_,_,_,rfl⟩ ?_ ?_
 ·rintro i d ρ hd ⟨x6,x7,x8,x9,rfl⟩ P' hP
  rw [List.getElem?_map] at hd
  obtain ⟨q,hqd,rfl⟩:=Option.map_eq_some_iff.mp hd
  (try dsimp? only)
  exact QG G (List.mem_of_getElem? hqd) P I hb fun _ _ _=>hP _ ⟨_,_,_,_,rfl⟩
 rintro ρ ⟨x6,x7,x8,x9,rfl⟩
 (try dsimp? only)
 exact Qz G P I fun _=>hE _ _ _ _ _
theorem QD {ns:List Int} {t:Nat} (ht:t<=100) (hns:ns.length<=63) {x2 x3 x4 x5 x6 x7 x8 x9:Option D} {E:EndD} (hE:∀ x2 x3 x4 x5 x6 x7 x8 x9,E.nx [some (.scr ns),some (.int (t:Int)),x2,x3,x4,x5,x6,x7,x8,x9]) :
  QC [some (.scr ns),some (.int (t:Int)),x2,x3,x4,x5,x6,x7,x8,x9] E:=by
 dsimp? only [QC]
 refine Ex ht hns fun bag1 hB1=>?_
 dsimp? only [Int.zero_add]
 refine Ey hB1 fun bag2 n ls hB2 G _=>?_
 have h1:=G.n1
 obtain ⟨k,rfl⟩:∃ k,n=k+1:=⟨n - 1,by omega⟩
 dsimp? only [↓GD,hB2.clean,bZ,bV]
 refine vR hB2 G fun bag3 hs hB3 hl h0 hb eb=>?_
 have P:=Iz G.o eb
 have I:=Ql (ls:=ls) hl h0
 dsimp? only [↓GD,hB3.clean,bZ,bV,hB1.clean,aB,aF,aG,aK,aC,au,aq,aZ,bw,aD,aO,aN,aP,az,Int.zero_add,Sv _ _ (D.lst false ((lW (k+1) ls hs).map fr)) (aN _)]
 exact Qx G P I hb fun _ _ _ _ _=>hE _ _ _ _ _ _ _ _
theorem ur:∀ ns:List Int,ns.length<=63->jH [.scr ns] fun r _=>r = .bl true:=by
 intro ns hns
 have p62:(2:Int) ^ 62=4611686018427387904:=by decide
 rw [Vb]
 dsimp? only
 refine bC ?_ ?_
 ·split <;> split <;> omega
 (try dsimp? only)
 refine cR (fun k ρ => ∃ x1 x2 x3 x4 x5 x6 x7 x8 x9,ρ = [some (.scr ns),x1,x2,x3,x4,x5,x6,x7,x8,x9]) 0 ⟨_,_,_,_,_,_,_,_,_,rfl⟩ ?_ ?_
 ·rintro k d ρ hd ⟨x1,x2,x3,x4,x5,x6,x7,x8,x9,rfl⟩ P hP
  obtain ⟨hk,rfl⟩:=iK hd
  have hk2:k<=100:=by revert hk;split <;> split <;> omega
  dsimp? only [Int.zero_add]
  exact QD hk2 hns fun _ _ _ _ _ _ _ _=>hP _ ⟨_,_,_,_,_,_,_,_,_,rfl⟩
 ·rintro ρ ⟨x1,x2,x3,x4,x5,x6,x7,x8,x9,rfl⟩
  dsimp? only
end Z
namespace K15
open PySem L2 Z
section
variable {P:Program} {w:World} {K:PySem.W.Frag} {mg:Str->Option Value} {base:Heap}
theorem qw:FnScope ["thing"] ["thing"] (aL (top 8)):=⟨rfl,rfl,rfl,by decide +kernel,rfl,by decide +kernel,by decide +kernel⟩
theorem qm (T:Known K mg "is_whole_number" (top 8) ["thing"]) (ht:P.given.tree=none) (n_bool:mg "bool" = none) (n_int:mg "int" = none) (n_isinstance:mg "isinstance" = none):Prm P w K mg base "is_whole_number" 35 ["thing"] (bj K 1 false cJ):=by
 refine T.sem qw ht ?_
 rintro _ cdv f A outer s H E rfl hc
 exact aQ (bO (Ac (bT jn jo rfl n_isinstance dR (aj (sn 0) (aj (aa (uf rfl n_int DW)) ao))) (rD (Ob (bT jn jo rfl n_isinstance dR (aj (sn 0) (aj (aa (uf rfl n_bool yU)) ao)))))))
theorem Aa:FnScope ["thing", "low", "high"] ["thing", "low", "high"] (aL (top 9)):=⟨rfl,rfl,rfl,by decide +kernel,rfl,by decide +kernel,by decide +kernel⟩
theorem zN (T:Known K mg "is_within" (top 9) ["thing", "low", "high"]) (ht:P.given.tree=none) (G_is_whole_number:Prm P w K mg base "is_whole_number" 35 ["thing"] (bj K 1 false cJ)):Prm P w K mg base "is_within" 36 ["thing", "low", "high"] (bj K 3 false iB):=by
 refine T.sem Aa ht ?_
 rintro _ cdv f A outer s H E rfl hc
 exact aQ (bO (Ac (bN G_is_whole_number (hc.room.mono (by decide)) rfl (aj (sn 0) ao)) (rD (Dm Hw Hw ux ux (sn 1) (sn 0) (sn 2)))))
theorem Jx:FnScope ["thing", "least", "most"] ["thing", "least", "most"] (aL (top 10)):=⟨rfl,rfl,rfl,by decide +kernel,rfl,by decide +kernel,by decide +kernel⟩
theorem Jl (T:Known K mg "is_row" (top 10) ["thing", "least", "most"]) (ht:P.given.tree=none) (n_isinstance:mg "isinstance" = none) (n_len:mg "len" = none) (n_tuple:mg "tuple" = none):Prm P w K mg base "is_row" 35 ["thing", "least", "most"] (bj K 3 false mC):=by
 refine T.sem Jx ht ?_
 rintro _ cdv f A outer s H E rfl hc
 exact aQ (bO (Ac (bT jn jo rfl n_isinstance dR (aj (sn 0) (aj (aa (uf rfl n_tuple uX)) ao))) (rD (Dm Hw Hw ux ux (sn 1) (aa (bT cY fY rfl n_len ju (aj (sn 0) ao))) (sn 2)))))
theorem lF:FnScope ["one", "other"] ["one", "other"] (aL (top 12)):=⟨rfl,rfl,rfl,by decide +kernel,rfl,by decide +kernel,by decide +kernel⟩
theorem qY (T:Known K mg "common_divisor" (top 12) ["one", "other"]) (ht:P.given.tree=none) (n_abs:mg "abs" = none):Prm P w K mg base "common_divisor" 35 ["one", "other"] (bj K 2 false dU):=by
 refine T.sem lF ht ?_
 rintro _ cdv f A outer s H E rfl hc
 exact aA (Dr PassesOwn.never (fV (oR hc.room.units) lu (sn 1) (aa (ak)) (dI _)) (aQ (Oj (i:=0) (j:=1) rfl rfl hc.calm lF.nd rfl rfl (by decide) rfl rfl (aj (sn 1) (aj (aa (aJ gG fG (sn 0) (sn 1))) ao)) rfl)))
   (aQ (bO (bT uY vo rfl n_abs DR (aj (sn 0) ao))))
theorem oX:FnScope ["top", "bottom", "divisor"] ["top", "bottom"] (aL (top 13)):=⟨rfl,rfl,rfl,by decide +kernel,rfl,by decide +kernel,by decide +kernel⟩
theorem CT (T:Known K mg "fraction" (top 13) ["top", "bottom"]) (ht:P.given.tree=none) (G_common_divisor:Prm P w K mg base "common_divisor" 35 ["one", "other"] (bj K 2 false dU)):Prm P w K mg base "fraction" 36 ["top", "bottom"] (bj K 2 false dm):=by
 refine T.sem oX ht ?_
 rintro _ cdv f A outer s H E rfl hc
 exact aA (gR (fV (nu hc.room.units) jE (sn 1) (aa (ak)) (dI _))
   (aQ (mJ))
   (fj))
   (aA (bH (i:=2) rfl oX.nd rfl (by first | exact .inl rfl | exact .inr rfl) (bN G_common_divisor (hc.room.mono (by decide)) rfl (aj (sn 0) (aj (sn 1) ao))))
   (aA (gR (fV Hx uy (sn 1) (aa (ak)) (dI _))
   (aQ (bH (i:=2) rfl oX.nd rfl (by first | exact .inl rfl | exact .inr rfl) (Dn xP oA (sn 2))))
   (fj))
   (aQ (bO (fJ (aj (aa (aJ (jt (Cc.mono hc (by decide))) iy (sn 0) (sn 2))) (aj (aa (aJ (jt (Cc.mono hc (by decide))) iy (sn 1) (sn 2))) ao)))))))
theorem RM:FnScope ["u", "v"] ["u", "v"] (aL (top 14)):=⟨rfl,rfl,rfl,by decide +kernel,rfl,by decide +kernel,by decide +kernel⟩
theorem Rb (T:Known K mg "plus" (top 14) ["u", "v"]) (ht:P.given.tree=none) (G_fraction:Prm P w K mg base "fraction" 36 ["top", "bottom"] (bj K 2 false dm)):Prm P w K mg base "plus" 37 ["u", "v"] (bj K 2 false qu):=by
 refine T.sem RM ht ?_
 rintro _ cdv f A outer s H E rfl hc
 exact aQ (bO (bN G_fraction (hc.room.mono (by decide)) rfl (aj (aa (aJ bu bI (aa (aJ bx bM (aa (aH (sn 0) (aa (ak)) (fun _ _=>rfl))) (aa (aH (sn 1) (aa (ak)) (fun _ _=>rfl))))) (aa (aJ bx bM (aa (aH (sn 1) (aa (ak)) (fun _ _=>rfl))) (aa (aH (sn 0) (aa (ak)) (fun _ _=>rfl))))))) (aj (aa (aJ bx bM (aa (aH (sn 0) (aa (ak)) (fun _ _=>rfl))) (aa (aH (sn 1) (aa (ak)) (fun _ _=>rfl))))) ao))))
theorem NT:FnScope ["u", "v"] ["u", "v"] (aL (top 15)):=⟨rfl,rfl,rfl,by decide +kernel,rfl,by decide +kernel,by decide +kernel⟩
theorem MN (T:Known K mg "minus" (top 15) ["u", "v"]) (ht:P.given.tree=none) (G_fraction:Prm P w K mg base "fraction" 36 ["top", "bottom"] (bj K 2 false dm)):Prm P w K mg base "minus" 37 ["u", "v"] (bj K 2 false jF):=by
 refine T.sem NT ht ?_
 rintro _ cdv f A outer s H E rfl hc
 exact aQ (bO (bN G_fraction (hc.room.mono (by decide)) rfl (aj (aa (aJ nA iI (aa (aJ bx bM (aa (aH (sn 0) (aa (ak)) (fun _ _=>rfl))) (aa (aH (sn 1) (aa (ak)) (fun _ _=>rfl))))) (aa (aJ bx bM (aa (aH (sn 1) (aa (ak)) (fun _ _=>rfl))) (aa (aH (sn 0) (aa (ak)) (fun _ _=>rfl))))))) (aj (aa (aJ bx bM (aa (aH (sn 0) (aa (ak)) (fun _ _=>rfl))) (aa (aH (sn 1) (aa (ak)) (fun _ _=>rfl))))) ao))))
theorem NZ:FnScope ["u", "v"] ["u", "v"] (aL (top 16)):=⟨rfl,rfl,rfl,by decide +kernel,rfl,by decide +kernel,by decide +kernel⟩
theorem MT (T:Known K mg "times" (top 16) ["u", "v"]) (ht:P.given.tree=none) (G_fraction:Prm P w K mg base "fraction" 36 ["top", "bottom"] (bj K 2 false dm)):Prm P w K mg base "times" 37 ["u", "v"] (bj K 2 false nF):=by
 refine T.sem NZ ht ?_
 rintro _ cdv f A outer s H E rfl hc
 exact aQ (bO (bN G_fraction (hc.room.mono (by decide)) rfl (aj (aa (aJ bx bM (aa (aH (sn 0) (aa (ak)) (fun _ _=>rfl))) (aa (aH (sn 1) (aa (ak)) (fun _ _=>rfl))))) (aj (aa (aJ bx bM (aa (aH (sn 0) (aa (ak)) (fun _ _=>rfl))) (aa (aH (sn 1) (aa (ak)) (fun _ _=>rfl))))) ao))))
theorem RL:FnScope ["u", "v"] ["u", "v"] (aL (top 17)):=⟨rfl,rfl,rfl,by decide +kernel,rfl,by decide +kernel,by decide +kernel⟩
theorem Ra (T:Known K mg "over" (top 17) ["u", "v"]) (ht:P.given.tree=none) (G_fraction:Prm P w K mg base "fraction" 36 ["top", "bottom"] (bj K 2 false dm)):Prm P w K mg base "over" 37 ["u", "v"] (bj K 2 false wY):=by
 refine T.sem RL ht ?_
 rintro _ cdv f A outer s H E rfl hc
 exact aQ (bO (bN G_fraction (hc.room.mono (by decide)) rfl (aj (aa (aJ bx bM (aa (aH (sn 0) (aa (ak)) (fun _ _=>rfl))) (aa (aH (sn 1) (aa (ak)) (fun _ _=>rfl))))) (aj (aa (aJ bx bM (aa (aH (sn 0) (aa (ak)) (fun _ _=>rfl))) (aa (aH (sn 1) (aa (ak)) (fun _ _=>rfl))))) ao))))
theorem kh:FnScope ["thing", "top", "bottom"] ["thing"] (aL (top 18)):=⟨rfl,rfl,rfl,by decide +kernel,rfl,by decide +kernel,by decide +kernel⟩
theorem wI (T:Known K mg "is_fraction" (top 18) ["thing"]) (ht:P.given.tree=none) (G_is_row:Prm P w K mg base "is_row" 35 ["thing", "least", "most"] (bj K 3 false mC)) (G_is_whole_number:Prm P w K mg base "is_whole_number" 35 ["thing"] (bj K 1 false cJ)) (G_common_divisor:Prm P w K mg base "common_divisor" 35 ["one", "other"] (bj K 2 false dU)):Prm P w K mg base "is_fraction" 36 ["thing"] (bj K 1 false gO):=by
 refine T.sem kh ht ?_
 rintro _ cdv f A outer s H E rfl hc
 exact aA (gR (jY (jy (aa (bN G_is_row (hc.room.mono (by decide)) rfl (aj (sn 0) (aj (aa (ak)) (aj (aa (ak)) ao)))))))
   (aQ (bO (xr)))
   (fj))
   (aA (FJ (sv 0) (iU hc.calm (bA (aM (i:=1) rfl kh.nd rfl (by first | exact .inl rfl | exact .inr rfl)) (bA (aM (i:=2) rfl kh.nd rfl (by first | exact .inl rfl | exact .inr rfl)) gk)) (goN [1,2])))
   (aA (gR (SW.b (Dt (jY (jy (aa (bN G_is_whole_number (hc.room.mono (by decide)) rfl (aj (sn 1) ao))))) (Ai (jY (jy (aa (bN G_is_whole_number (hc.room.mono (by decide)) rfl (aj (sn 2) ao))))))))
   (aQ (bO (xr)))
   (fj))
   (aQ (bO (Ac (tD XJ Qj (sn 2) (aa (ak)) (dI _)) (rD (tD (nu hc.room.units) jE (aa (bN G_common_divisor (hc.room.mono (by decide)) rfl (aj (sn 1) (aj (sn 2) ao)))) (aa (ak)) (dI _))))))))
theorem dB:FnScope ["many", "lines", "groups", "one", "other", "stiffness", "most", "kept", "gone"] ["many", "lines"] (aL (top 20)):=⟨rfl,rfl,rfl,by decide +kernel,rfl,by decide +kernel,by decide +kernel⟩
theorem xY (T:Known K mg "are_joined" (top 20) ["many", "lines"]) (ht:P.given.tree=none) (n_len:mg "len" = none) (n_list:mg "list" = none) (n_range:mg "range" = none) (n_set:mg "set" = none):Prm P w K mg base "are_joined" 35 ["many", "lines"] (bj K 2 false iR):=by
 refine T.sem dB ht ?_
 rintro _ cdv f A outer s H E rfl hc
 exact aA (bH (i:=2) rfl dB.nd rfl (by first | exact .inl rfl | exact .inr rfl) (rE hc.calm rfl n_list rfl n_range (aj (sn 0) ao)))
   (aA (fW PassesOwn.never hc.calm (dZ (sv 1)) (iU hc.calm (bA (aM (i:=3) rfl dB.nd rfl (by first | exact .inl rfl | exact .inr rfl)) (bA (aM (i:=4) rfl dB.nd rfl (by first | exact .inl rfl | exact .inr rfl)) (bA (aM (i:=5) rfl dB.nd rfl (by first | exact .inl rfl | exact .inr rfl)) (bA (aM (i:=6) rfl dB.nd rfl (by first | exact .inl rfl | exact .inr rfl)) gk)))) (goN [3,4,5,6]))
   (aA (FJ (fJ (aj (aa (aH (sn 2) (sn 3) (fun _ _=>rfl))) (aj (aa (aH (sn 2) (sn 4) (fun _ _=>rfl))) ao))) (iU hc.calm (bA (aM (i:=7) rfl dB.nd rfl (by first | exact .inl rfl | exact .inr rfl)) (bA (aM (i:=8) rfl dB.nd rfl (by first | exact .inl rfl | exact .inr rfl)) gk)) (goN [7,8])))
   (aQ (gZ (i:=2) (own:=["group"]) (fr:=[7,8]) rfl dB.nd rfl (by first | exact .inl rfl | exact .inr rfl) hc.calm (dZ (sv 2)) (CScope.of (by rfl)) (by decide) (fun _ _ _ _ _=>(aM (i:=0) rfl (dh (by rfl)) rfl (by first | exact .inl rfl | exact .inr rfl))) (fun _ _ _ _ _=>cM) (fun _ _ _ _ _=>(TJ (fV (nu hc.room.units) jE (sn 0) (sn 2) (dI _)) (sv 1) (sv 0)))))))
   (aQ (bO (tD (nu hc.room.units) jE (aa (Jz hc.calm rfl n_len rfl n_set (aj (sn 2) ao))) (aa (ak)) (dI _)))))
theorem Ab:FnScope ["net", "line"] ["net", "line"] (aL (top 21)):=⟨rfl,rfl,rfl,by decide +kernel,rfl,by decide +kernel,by decide +kernel⟩
theorem zO (T:Known K mg "lines_but" (top 21) ["net", "line"]) (ht:P.given.tree=none):Prm P w K mg base "lines_but" 35 ["net", "line"] (bj K 2 false gB):=by
 refine T.sem Ab ht ?_
 rintro _ cdv f A outer s H E rfl hc
 exact aQ (bO (aJ bu bI (aa (RQ (aa (aH (sn 0) (aa (ak)) (fun _ _=>rfl))) (sn 1))) (aa (pI (aa (aH (sn 0) (aa (ak)) (fun _ _=>rfl))) (aa (aJ bu bI (sn 1) (aa (ak))))))))
theorem xg:FnScope ["net", "line"] ["net", "line"] (aL (top 22)):=⟨rfl,rfl,rfl,by decide +kernel,rfl,by decide +kernel,by decide +kernel⟩
theorem wH (T:Known K mg "can_be_lost" (top 22) ["net", "line"]) (ht:P.given.tree=none) (G_are_joined:Prm P w K mg base "are_joined" 35 ["many", "lines"] (bj K 2 false iR)) (G_lines_but:Prm P w K mg base "lines_but" 35 ["net", "line"] (bj K 2 false gB)):Prm P w K mg base "can_be_lost" 36 ["net", "line"] (bj K 2 false gM):=by
 refine T.sem xg ht ?_
 rintro _ cdv f A outer s H E rfl hc
 exact aQ (bO (bN G_are_joined (hc.room.mono (by decide)) rfl (aj (aa (aH (sn 0) (aa (ak)) (fun _ _=>rfl))) (aj (aa (bN G_lines_but (hc.room.mono (by decide)) rfl (aj (sn 0) (aj (sn 1) ao)))) ao))))
theorem Fx:FnScope ["net", "line"] ["net", "line"] (aL (top 23)):=⟨rfl,rfl,rfl,by decide +kernel,rfl,by decide +kernel,by decide +kernel⟩
theorem Fj (T:Known K mg "without" (top 23) ["net", "line"]) (ht:P.given.tree=none) (n_len:mg "len" = none) (G_is_within:Prm P w K mg base "is_within" 36 ["thing", "low", "high"] (bj K 3 false iB)) (G_can_be_lost:Prm P w K mg base "can_be_lost" 36 ["net", "line"] (bj K 2 false gM)) (G_lines_but:Prm P w K mg base "lines_but" 35 ["net", "line"] (bj K 2 false gB)):Prm P w K mg base "without" 37 ["net", "line"] (bj K 2 false jJ):=by
 refine T.sem Fx ht ?_
 rintro _ cdv f A outer s H E rfl hc
 exact aA (gR (jY (jy (aa (bN G_is_within (hc.room.mono (by decide)) rfl (aj (sn 1) (aj (aa (ak)) (aj (aa (aJ nA iI (aa (bT cY fY rfl n_len ju (aj (aa (aH (sn 0) (aa (ak)) (fun _ _=>rfl))) ao))) (aa (ak)))) ao)))))))
   (aQ (mJ))
   (fj))
   (aA (gR (jY (jy (aa (bN G_can_be_lost (hc.room.mono (by decide)) rfl (aj (sn 0) (aj (sn 1) ao))))))
   (aQ (mJ))
   (fj))
   (aQ (bO (fJ (aj (aa (aH (sn 0) (aa (ak)) (fun _ _=>rfl))) (aj (aa (bN G_lines_but (hc.room.mono (by decide)) rfl (aj (sn 0) (aj (sn 1) ao)))) ao))))))
theorem oY:FnScope ["rows", "at", "number"] ["rows", "at"] (aL (top 25)):=⟨rfl,rfl,rfl,by decide +kernel,rfl,by decide +kernel,by decide +kernel⟩
theorem wJ (T:Known K mg "leading_row" (top 25) ["rows", "at"]) (ht:P.given.tree=none) (n_len:mg "len" = none) (n_range:mg "range" = none):Prm P w K mg base "leading_row" 35 ["rows", "at"] (bj K 2 false gP):=by
 refine T.sem oY ht ?_
 rintro _ cdv f A outer s H E rfl hc
 exact aA (fW PassesOwn.never hc.calm (tG rfl n_range (aj (sn 1) (aj (aa (bT cY fY rfl n_len ju (aj (sn 0) ao))) ao))) (aM (i:=2) rfl oY.nd rfl (by first | exact .inl rfl | exact .inr rfl))
   (aQ (gR (fV (oR hc.room.units) lu (aa (iT ik fP (aa (aH (sn 0) (sn 2) (fun _ _=>rfl))) (sn 1) (fun _ _=>rfl))) (aa (fJ (aj (aa (ak)) (aj (aa (ak)) ao)))) (dI _))
   (aQ (pM (i:=2) rfl rfl (by first | exact .inl rfl | exact .inr (.inl rfl) | exact .inr (.inr rfl))))
   (fj))))
   (aQ (bO (Fy)))
theorem Dl:FnScope ["row", "at"] ["row", "at"] (aL (top 26)):=⟨rfl,rfl,rfl,by decide +kernel,rfl,by decide +kernel,by decide +kernel⟩
theorem CV (T:Known K mg "made_one" (top 26) ["row", "at"]) (ht:P.given.tree=none) (G_over:Prm P w K mg base "over" 37 ["u", "v"] (bj K 2 false wY)):Prm P w K mg base "made_one" 38 ["row", "at"] (bj K 2 false jX):=by
 refine T.sem Dl ht ?_
 rintro _ cdv f A outer s H E rfl hc
 exact aQ (bO (gj (own:=["part"]) (fr:=[0,1]) hc.calm (dZ (sv 0)) (CScope.of (by rfl)) (by decide) (fun _ _ _ _ _=>(aM (i:=0) rfl (dh (by rfl)) rfl (by first | exact .inl rfl | exact .inr rfl))) (fun _ _ _ _ _=>cM) (fun _ _ _ _ _=>(bN G_over (hc.room.mono (by decide)) rfl (aj (sn 0) (aj (aa (aH (sn 1) (sn 2) (fun _ _=>rfl))) ao))))))
theorem xn:FnScope ["row", "lead", "at"] ["row", "lead", "at"] (aL (top 27)):=⟨rfl,rfl,rfl,by decide +kernel,rfl,by decide +kernel,by decide +kernel⟩
theorem wL (T:Known K mg "made_nought" (top 27) ["row", "lead", "at"]) (ht:P.given.tree=none) (n_zip:mg "zip" = none) (G_minus:Prm P w K mg base "minus" 37 ["u", "v"] (bj K 2 false jF)) (G_times:Prm P w K mg base "times" 37 ["u", "v"] (bj K 2 false nF)):Prm P w K mg base "made_nought" 38 ["row", "lead", "at"] (bj K 3 false gQ):=by
 refine T.sem xn ht ?_
 rintro _ cdv f A outer s H E rfl hc
 exact aQ (bO (gj (own:=["part", "other"]) (fr:=[0,2]) hc.calm (Ae rfl n_zip (sv 0) (sv 1)) (CScope.of (by rfl)) (by decide) (fun _ _ _ _ _=>(iU hc.calm (bA (aM (i:=0) rfl (dh (by rfl)) rfl (by first | exact .inl rfl | exact .inr rfl)) (bA (aM (i:=1) rfl (dh (by rfl)) rfl (by first | exact .inl rfl | exact .inr rfl)) gk)) (goN [0,1]))) (fun _ _ _ _ _=>cM) (fun _ _ _ _ _=>(bN G_minus (hc.room.mono (by decide)) rfl (aj (sn 0) (aj (aa (bN G_times (hc.room.mono (by decide)) rfl (aj (aa (aH (sn 2) (sn 3) (fun _ _=>rfl))) (aj (sn 1) ao)))) ao))))))
theorem xj:FnScope ["rows", "at", "lead"] ["rows", "at"] (aL (top 28)):=⟨rfl,rfl,rfl,by decide +kernel,rfl,by decide +kernel,by decide +kernel⟩
theorem Ff (T:Known K mg "cleared" (top 28) ["rows", "at"]) (ht:P.given.tree=none) (n_enumerate:mg "enumerate" = none) (G_made_one:Prm P w K mg base "made_one" 38 ["row", "at"] (bj K 2 false jX)) (G_made_nought:Prm P w K mg base "made_nought" 38 ["row", "lead", "at"] (bj K 3 false gQ)):Prm P w K mg base "cleared" 39 ["rows", "at"] (bj K 2 false my):=by
 refine T.sem xj ht ?_
 rintro _ cdv f A outer s H E rfl hc
 exact aA (bH (i:=2) rfl xj.nd rfl (by first | exact .inl rfl | exact .inr rfl) (bN G_made_one (hc.room.mono (by decide)) rfl (aj (aa (aH (sn 0) (sn 1) (fun _ _=>rfl))) (aj (sn 1) ao))))
   (aQ (bO (gj (own:=["number", "row"]) (fr:=[1,2]) hc.calm (RT rfl n_enumerate (sv 0)) (CScope.of (by rfl)) (by decide) (fun _ _ _ _ _=>(iU hc.calm (bA (aM (i:=0) rfl (dh (by rfl)) rfl (by first | exact .inl rfl | exact .inr rfl)) (bA (aM (i:=1) rfl (dh (by rfl)) rfl (by first | exact .inl rfl | exact .inr rfl)) gk)) (goN [0,1]))) (fun _ _ _ _ _=>cM) (fun _ _ _ _ _=>(TJ (fV (nu hc.room.units) jE (sn 0) (sn 2) (dI _)) (sv 3) (bN G_made_nought (hc.room.mono (by decide)) rfl (aj (sn 1) (aj (sn 3) (aj (sn 2) ao)))))))))
theorem mF:FnScope ["table", "right", "rows", "at", "number"] ["table", "right"] (aL (top 29)):=⟨rfl,rfl,rfl,by decide +kernel,rfl,by decide +kernel,by decide +kernel⟩
theorem Jo (T:Known K mg "solved" (top 29) ["table", "right"]) (ht:P.given.tree=none) (n_len:mg "len" = none) (n_list:mg "list" = none) (n_range:mg "range" = none) (n_zip:mg "zip" = none) (G_leading_row:Prm P w K mg base "leading_row" 35 ["rows", "at"] (bj K 2 false gP)) (G_cleared:Prm P w K mg base "cleared" 39 ["rows", "at"] (bj K 2 false my)):Prm P w K mg base "solved" 40 ["table", "right"] (bj K 2 false oU):=by
 refine T.sem mF ht ?_
 rintro _ cdv f A outer s H E rfl hc
 exact aA (gZ (i:=2) (own:=["parts", "end"]) (fr:=[]) rfl mF.nd rfl (by first | exact .inl rfl | exact .inr rfl) hc.calm (Ae rfl n_zip (sv 0) (sv 1)) (CScope.of (by rfl)) (by decide) (fun _ _ _ _ _=>(iU hc.calm (bA (aM (i:=0) rfl (dh (by rfl)) rfl (by first | exact .inl rfl | exact .inr rfl)) (bA (aM (i:=1) rfl (dh (by rfl)) rfl (by first | exact .inl rfl | exact .inr rfl)) gk)) (goN [0,1]))) (fun _ _ _ _ _=>cM) (fun _ _ _ _ _=>(aJ bu bI (aa (jK mR ou rfl n_list qD (aj (sn 0) ao))) (aa (gf (aj (aa (sv 1)) ao))))))
   (aA (fW PassesOwn.never hc.calm (dW rfl n_range (aj (aa (bT cY fY rfl n_len ju (aj (sn 0) ao))) ao)) (aM (i:=3) rfl mF.nd rfl (by first | exact .inl rfl | exact .inr rfl))
   (aA (bH (i:=4) rfl mF.nd rfl (by first | exact .inl rfl | exact .inr rfl) (bN G_leading_row (hc.room.mono (by decide)) rfl (aj (sn 2) (aj (sn 3) ao))))
   (aA (gR (fV Vw Km (sn 4) (aa (Fy)) (dI _))
   (aQ (bO (Fy)))
   (fj))
   (aA (jm (oZ (i:=2) PySem.F.slot_list_insert PySem.F.type_list_insert sY sJ rfl (by first | exact .inl rfl | exact .inr (.inl rfl) | exact .inr (.inr rfl)) (aj (aa (sv 3)) (aj (aa (oZ (i:=2) PySem.F.slot_list_pop PySem.F.type_list_pop Mu Kg rfl (by first | exact .inl rfl | exact .inr (.inl rfl) | exact .inr (.inr rfl)) (aj (aa (sv 4)) ao))) ao))))
   (aQ (bH (i:=2) rfl mF.nd rfl (by first | exact .inl rfl | exact .inr rfl) (bN G_cleared (hc.room.mono (by decide)) rfl (aj (sn 2) (aj (sn 3) ao)))))))))
   (aQ (bO (gj (own:=["row"]) (fr:=[]) hc.calm (dZ (sv 2)) (CScope.of (by rfl)) (by decide) (fun _ _ _ _ _=>(aM (i:=0) rfl (dh (by rfl)) rfl (by first | exact .inl rfl | exact .inr rfl))) (fun _ _ _ _ _=>cM) (fun _ _ _ _ _=>(aH (sn 0) (aa (Dn xP oA (aa (ak)))) (fun _ _=>rfl)))))))
theorem jk:FnScope ["net", "puts", "total", "put"] ["net", "puts"] (aL (top 31)):=⟨rfl,rfl,rfl,by decide +kernel,rfl,by decide +kernel,by decide +kernel⟩
theorem xZ (T:Known K mg "check_puts" (top 31) ["net", "puts"]) (ht:P.given.tree=none) (n_isinstance:mg "isinstance" = none) (n_len:mg "len" = none) (n_list:mg "list" = none) (G_is_fraction:Prm P w K mg base "is_fraction" 36 ["thing"] (bj K 1 false gO)) (G_plus:Prm P w K mg base "plus" 37 ["u", "v"] (bj K 2 false qu)):Prm P w K mg base "check_puts" 38 ["net", "puts"] (bj K 2 false eU):=by
 refine T.sem jk ht ?_
 rintro _ cdv f A outer s H E rfl hc
 exact aA (gR (SW.b (Dt (jY (jy (aa (bT jn jo rfl n_isinstance dR (aj (sn 1) (aj (aa (uf rfl n_list qD)) ao)))))) (Ai (fV (oR hc.room.units) lu (aa (bT cY fY rfl n_len ju (aj (sn 1) ao))) (aa (aH (sn 0) (aa (ak)) (fun _ _=>rfl))) (dI _)))))
   (aQ (mJ))
   (fj))
   (aA (bH (i:=2) rfl jk.nd rfl (by first | exact .inl rfl | exact .inr rfl) (fJ (aj (aa (ak)) (aj (aa (ak)) ao))))
   (aA (fW PassesOwn.never hc.calm (dZ (sv 1)) (aM (i:=3) rfl jk.nd rfl (by first | exact .inl rfl | exact .inr rfl))
   (aA (gR (jY (jy (aa (bN G_is_fraction (hc.room.mono (by decide)) rfl (aj (sn 3) ao)))))
   (aQ (mJ))
   (fj))
   (aQ (bH (i:=2) rfl jk.nd rfl (by first | exact .inl rfl | exact .inr rfl) (bN G_plus (hc.room.mono (by decide)) rfl (aj (sn 2) (aj (sn 3) ao)))))))
   (aQ (gR (fV (oR hc.room.units) lu (sn 2) (aa (fJ (aj (aa (ak)) (aj (aa (ak)) ao)))) (dI _))
   (aQ (mJ))
   (fj)))))
theorem dw:FnScope ["net", "rows", "one", "other", "stiffness", "most"] ["net"] (aL (top 32)):=⟨rfl,rfl,rfl,by decide +kernel,rfl,by decide +kernel,by decide +kernel⟩
theorem qp (T:Known K mg "stiffness_table" (top 32) ["net"]) (ht:P.given.tree=none) (n_range:mg "range" = none):Prm P w K mg base "stiffness_table" 35 ["net"] (bj K 1 false eV):=by
 refine T.sem dw ht ?_
 rintro _ cdv f A outer s H E rfl hc
 exact aA (gZ (i:=1) (own:=["place"]) (fr:=[0]) rfl dw.nd rfl (by first | exact .inl rfl | exact .inr rfl) hc.calm (dW rfl n_range (aj (aa (aH (sn 0) (aa (ak)) (fun _ _=>rfl))) ao)) (CScope.of (by rfl)) (by decide) (fun _ _ _ _ _=>(aM (i:=0) rfl (dh (by rfl)) rfl (by first | exact .inl rfl | exact .inr rfl))) (fun _ _ _ _ _=>cM) (fun _ _ _ _ _=>(gj (own:=["place"]) (fr:=[]) hc.calm (dW rfl n_range (aj (aa (aH (sn 1) (aa (ak)) (fun _ _=>rfl))) ao)) (CScope.of (by rfl)) (by decide) (fun _ _ _ _ _=>(aM (i:=0) rfl (dh (by rfl)) rfl (by first | exact .inl rfl | exact .inr rfl))) (fun _ _ _ _ _=>cM) (fun _ _ _ _ _=>(ak)))))
   (aA (fW PassesOwn.never hc.calm (dZ (aH (sn 0) (aa (ak)) (fun _ _=>rfl))) (iU hc.calm (bA (aM (i:=2) rfl dw.nd rfl (by first | exact .inl rfl | exact .inr rfl)) (bA (aM (i:=3) rfl dw.nd rfl (by first | exact .inl rfl | exact .inr rfl)) (bA (aM (i:=4) rfl dw.nd rfl (by first | exact .inl rfl | exact .inr rfl)) (bA (aM (i:=5) rfl dw.nd rfl (by first | exact .inl rfl | exact .inr rfl)) gk)))) (goN [2,3,4,5]))
   (aA (lH zx (pvn 1) (pvn 2) (pvn 2) (pvn 4) (fun _ _=>rfl))
   (aA (lH zx (pvn 1) (pvn 3) (pvn 3) (pvn 4) (fun _ _=>rfl))
   (aA (lH zy (pvn 1) (pvn 2) (pvn 3) (pvn 4) (fun _ _=>rfl))
   (aQ (lH zy (pvn 1) (pvn 3) (pvn 2) (pvn 4) (fun _ _=>rfl)))))))
   (aQ (pM (i:=1) rfl rfl (by first | exact .inl rfl | exact .inr (.inl rfl) | exact .inr (.inr rfl)))))
theorem xm:FnScope ["net", "puts", "table"] ["net", "puts"] (aL (top 33)):=⟨rfl,rfl,rfl,by decide +kernel,rfl,by decide +kernel,by decide +kernel⟩
theorem Fg (T:Known K mg "heights" (top 33) ["net", "puts"]) (ht:P.given.tree=none) (G_check_puts:Prm P w K mg base "check_puts" 38 ["net", "puts"] (bj K 2 false eU)) (G_stiffness_table:Prm P w K mg base "stiffness_table" 35 ["net"] (bj K 1 false eV)) (G_fraction:Prm P w K mg base "fraction" 36 ["top", "bottom"] (bj K 2 false dm)) (G_solved:Prm P w K mg base "solved" 40 ["table", "right"] (bj K 2 false oU)):Prm P w K mg base "heights" 41 ["net", "puts"] (bj K 2 false mz):=by
 refine T.sem xm ht ?_
 rintro _ cdv f A outer s H E rfl hc
 exact aA (jm (bN G_check_puts (hc.room.mono (by decide)) rfl (aj (sn 0) (aj (sn 1) ao))))
   (aA (gZ (i:=2) (own:=["row"]) (fr:=[]) rfl xm.nd rfl (by first | exact .inl rfl | exact .inr rfl) hc.calm (dZ (pI (aa (TF (bN G_stiffness_table (hc.room.mono (by decide)) rfl (aj (sn 0) ao)))) (aa (ak)))) (CScope.of (by rfl)) (by decide) (fun _ _ _ _ _=>(aM (i:=0) rfl (dh (by rfl)) rfl (by first | exact .inl rfl | exact .inr rfl))) (fun _ _ _ _ _=>cM) (fun _ _ _ _ _=>(gj (own:=["part"]) (fr:=[]) hc.calm (dZ (pI (sn 0) (aa (ak)))) (CScope.of (by rfl)) (by decide) (fun _ _ _ _ _=>(aM (i:=0) rfl (dh (by rfl)) rfl (by first | exact .inl rfl | exact .inr rfl))) (fun _ _ _ _ _=>cM) (fun _ _ _ _ _=>(bN G_fraction (hc.room.mono (by decide)) rfl (aj (sn 0) (aj (aa (ak)) ao)))))))
   (aQ (bO (aJ bu bI (aa (@uL _ _ _ _ (tB rfl (Ad (dY rfl (aa (ak)) (dY rfl (aa (ak)) nG))) nG))) (aa (bN G_solved (hc.room.mono (by decide)) rfl (aj (sn 2) (aj (aa (pI (sn 1) (aa (ak)))) ao))))))))
theorem xq:FnScope ["net", "puts", "found"] ["net", "puts"] (aL (top 34)):=⟨rfl,rfl,rfl,by decide +kernel,rfl,by decide +kernel,by decide +kernel⟩
theorem Fi (T:Known K mg "streams" (top 34) ["net", "puts"]) (ht:P.given.tree=none) (G_heights:Prm P w K mg base "heights" 41 ["net", "puts"] (bj K 2 false mz)) (G_times:Prm P w K mg base "times" 37 ["u", "v"] (bj K 2 false nF)) (G_minus:Prm P w K mg base "minus" 37 ["u", "v"] (bj K 2 false jF)):Prm P w K mg base "streams" 42 ["net", "puts"] (bj K 2 false dq):=by
 refine T.sem xq ht ?_
 rintro _ cdv f A outer s H E rfl hc
 exact aA (bH (i:=2) rfl xq.nd rfl (by first | exact .inl rfl | exact .inr rfl) (bN G_heights (hc.room.mono (by decide)) rfl (aj (sn 0) (aj (sn 1) ao))))
   (aQ (bO (gj (own:=["one", "other", "stiffness", "most"]) (fr:=[2]) hc.calm (dZ (aH (sn 0) (aa (ak)) (fun _ _=>rfl))) (CScope.of (by rfl)) (by decide) (fun _ _ _ _ _=>(iU hc.calm (bA (aM (i:=0) rfl (dh (by rfl)) rfl (by first | exact .inl rfl | exact .inr rfl)) (bA (aM (i:=1) rfl (dh (by rfl)) rfl (by first | exact .inl rfl | exact .inr rfl)) (bA (aM (i:=2) rfl (dh (by rfl)) rfl (by first | exact .inl rfl | exact .inr rfl)) (bA (aM (i:=3) rfl (dh (by rfl)) rfl (by first | exact .inl rfl | exact .inr rfl)) gk)))) (goN [0,1,2,3]))) (fun _ _ _ _ _=>cM) (fun _ _ _ _ _=>(bN G_times (hc.room.mono (by decide)) rfl (aj (aa (fJ (aj (aa (sv 2)) (aj (aa (ak)) ao)))) (aj (aa (bN G_minus (hc.room.mono (by decide)) rfl (aj (aa (aH (sn 4) (sn 0) (fun _ _=>rfl))) (aj (aa (aH (sn 4) (sn 1) (fun _ _=>rfl))) ao)))) ao)))))))
theorem yK:FnScope ["net", "one", "other", "puts"] ["net", "one", "other"] (aL (top 35)):=⟨rfl,rfl,rfl,by decide +kernel,rfl,by decide +kernel,by decide +kernel⟩
theorem Jm (T:Known K mg "shares" (top 35) ["net", "one", "other"]) (ht:P.given.tree=none) (n_range:mg "range" = none) (G_plus:Prm P w K mg base "plus" 37 ["u", "v"] (bj K 2 false qu)) (G_minus:Prm P w K mg base "minus" 37 ["u", "v"] (bj K 2 false jF)) (G_streams:Prm P w K mg base "streams" 42 ["net", "puts"] (bj K 2 false dq)):Prm P w K mg base "shares" 43 ["net", "one", "other"] (bj K 3 false mD):=by
 refine T.sem yK ht ?_
 rintro _ cdv f A outer s H E rfl hc
 exact aA (gZ (i:=3) (own:=["place"]) (fr:=[]) rfl yK.nd rfl (by first | exact .inl rfl | exact .inr rfl) hc.calm (dW rfl n_range (aj (aa (aH (sn 0) (aa (ak)) (fun _ _=>rfl))) ao)) (CScope.of (by rfl)) (by decide) (fun _ _ _ _ _=>(aM (i:=0) rfl (dh (by rfl)) rfl (by first | exact .inl rfl | exact .inr rfl))) (fun _ _ _ _ _=>cM) (fun _ _ _ _ _=>(fJ (aj (aa (ak)) (aj (aa (ak)) ao)))))
   (aA (mK (i:=3) rfl (by first | exact .inl rfl | exact .inr (.inl rfl) | exact .inr (.inr rfl)) (bN G_plus (hc.room.mono (by decide)) rfl (aj (aa (aH (sn 3) (sn 1) (fun _ _=>rfl))) (aj (aa (fJ (aj (aa (ak)) (aj (aa (ak)) ao)))) ao))) (sn 1))
   (aA (mK (i:=3) rfl (by first | exact .inl rfl | exact .inr (.inl rfl) | exact .inr (.inr rfl)) (bN G_minus (hc.room.mono (by decide)) rfl (aj (aa (aH (sn 3) (sn 2) (fun _ _=>rfl))) (aj (aa (fJ (aj (aa (ak)) (aj (aa (ak)) ao)))) ao))) (sn 2))
   (aQ (bO (bN G_streams (hc.room.mono (by decide)) rfl (aj (sn 0) (aj (sn 3) ao)))))))
theorem oW:FnScope ["net", "puts", "line", "found"] ["net", "puts", "line"] (aL (top 36)):=⟨rfl,rfl,rfl,by decide +kernel,rfl,by decide +kernel,by decide +kernel⟩
theorem wG (T:Known K mg "behind_loss" (top 36) ["net", "puts", "line"]) (ht:P.given.tree=none) (G_check_puts:Prm P w K mg base "check_puts" 38 ["net", "puts"] (bj K 2 false eU)) (G_streams:Prm P w K mg base "streams" 42 ["net", "puts"] (bj K 2 false dq)) (G_without:Prm P w K mg base "without" 37 ["net", "line"] (bj K 2 false jJ)):Prm P w K mg base "behind_loss" 43 ["net", "puts", "line"] (bj K 3 false eZ):=by
 refine T.sem oW ht ?_
 rintro _ cdv f A outer s H E rfl hc
 exact aA (jm (bN G_check_puts (hc.room.mono (by decide)) rfl (aj (sn 0) (aj (sn 1) ao))))
   (aA (bH (i:=3) rfl oW.nd rfl (by first | exact .inl rfl | exact .inr rfl) (bN G_streams (hc.room.mono (by decide)) rfl (aj (aa (bN G_without (hc.room.mono (by decide)) rfl (aj (sn 0) (aj (sn 2) ao)))) (aj (sn 1) ao))))
   (aA (jm (oZ (i:=3) PySem.F.slot_list_insert PySem.F.type_list_insert sY sJ rfl (by first | exact .inl rfl | exact .inr (.inl rfl) | exact .inr (.inr rfl)) (aj (aa (sv 2)) (aj (aa (fJ (aj (aa (ak)) (aj (aa (ak)) ao)))) ao))))
   (aQ (pM (i:=3) rfl rfl (by first | exact .inl rfl | exact .inr (.inl rfl) | exact .inr (.inr rfl))))))
theorem gC:FnScope ["_law_script", "_law_at", "_law_cell", "_law_mix", "_law_k"] ["_law_script", "_law_at"] (aL (top 38)):=⟨rfl,rfl,rfl,by decide +kernel,rfl,by decide +kernel,by decide +kernel⟩
theorem CN (T:Known K mg "_law_bag" (top 38) ["_law_script", "_law_at"]) (ht:P.given.tree=none) (n_abs:mg "abs" = none) (n_len:mg "len" = none) (n_min:mg "min" = none) (n_range:mg "range" = none):Prm P w K mg base "_law_bag" 35 ["_law_script", "_law_at"] (bj K 2 false jW):=by
 refine T.sem gC ht ?_
 rintro _ cdv f A outer s H E rfl hc
 exact aA (bH (i:=2) rfl gC.nd rfl (by first | exact .inl rfl | exact .inr rfl) (ak))
   (aA (gR (fV Hx uy (sn 1) (aa (bT cY fY rfl n_len ju (aj (sn 0) ao))) (dI _))
   (aQ (bH (i:=2) rfl gC.nd rfl (by first | exact .inl rfl | exact .inr rfl) (bT uY vo rfl n_abs DR (aj (aa (aH (sn 0) (sn 1) (fun _ _=>rfl))) ao))))
   (fj))
   (aA (bH (i:=3) rfl gC.nd rfl (by first | exact .inl rfl | exact .inr rfl) (aJ gG fG (aa (aJ wO oE (aa (aJ bu bI (aa (aJ bu bI (aa (aJ gG fG (sn 2) (aa (ak)))) (aa (aJ bx bM (aa (ak)) (sn 1))))) (aa (ak)))) (aa (ak)))) (aa (ak))))
   (aA (fW PassesOwn.never hc.calm (dW rfl n_range (aj (aa (bT (su hc.calm) vy rfl n_min DX (aj (aa (bT cY fY rfl n_len ju (aj (sn 0) ao))) (aj (aa (ak)) ao)))) ao)) (aM (i:=4) rfl gC.nd rfl (by first | exact .inl rfl | exact .inr rfl))
   (aQ (bH (i:=3) rfl gC.nd rfl (by first | exact .inl rfl | exact .inr rfl) (aJ gG fG (aa (aJ bu bI (aa (aJ bu bI (aa (aJ bx bM (sn 3) (aa (ak)))) (aa (aJ bx bM (aa (aJ gG fG (aa (aH (sn 0) (sn 4) (fun _ _=>rfl))) (aa (ak)))) (aa (aJ bu bI (sn 4) (aa (ak)))))))) (sn 4))) (aa (ak))))))
   (aA (gR (fV Hx uy (sn 2) (aa (aJ wO oE (aa (ak)) (aa (ak)))) (dI _))
   (aQ (bH (i:=2) rfl gC.nd rfl (by first | exact .inl rfl | exact .inr rfl) (ak)))
   (fj))
   (aQ (bO (gf (aj (aa (sv 2)) (aj (aa (sv 3)) ao)))))))))
theorem rC:FnScope ["_law_bag_here", "_law_many", "_law_digit"] ["_law_bag_here", "_law_many"] (aL (top 39)):=⟨rfl,rfl,rfl,by decide +kernel,rfl,by decide +kernel,by decide +kernel⟩
theorem zL (T:Known K mg "_law_take" (top 39) ["_law_bag_here", "_law_many"]) (ht:P.given.tree=none):Prm P w K mg base "_law_take" 35 ["_law_bag_here", "_law_many"] (bj K 2 true bh):=by
 refine T.sem rC ht ?_
 rintro _ cdv f A outer s H E rfl hc
 exact aA (gR (fV Tt Gp (aa (aH (sn 0) (aa (ak)) (fun _ _=>rfl))) (aa (ak)) (dI _))
   (aA (bH (i:=2) rfl rC.nd rfl (by first | exact .inl rfl | exact .inr rfl) (aJ gG fG (aa (aH (sn 0) (aa (ak)) (fun _ _=>rfl))) (sn 1)))
   (aA (mK (i:=0) rfl (by first | exact .inl rfl | exact .inr (.inl rfl) | exact .inr (.inr rfl)) (aJ (jt (Cc.mono hc (by decide))) iy (aa (aH (sn 0) (aa (ak)) (fun _ _=>rfl))) (sn 1)) (aa (ak)))
   (aQ (pM (i:=2) rfl rfl (by first | exact .inl rfl | exact .inr (.inl rfl) | exact .inr (.inr rfl))))))
   (fj))
   (aA (mK (i:=0) rfl (by first | exact .inl rfl | exact .inr (.inl rfl) | exact .inr (.inr rfl)) (aJ gG fG (aa (aJ bu bI (aa (aJ bx bM (aa (aH (sn 0) (aa (ak)) (fun _ _=>rfl))) (aa (ak)))) (aa (ak)))) (aa (ak))) (aa (ak)))
   (aQ (bO (aJ gG fG (aa (aJ gG fG (aa (aJ bx bM (aa (aJ (jt (Cc.mono hc (by decide))) iy (aa (aJ gG fG (aa (aJ wO oE (aa (aH (sn 0) (aa (ak)) (fun _ _=>rfl))) (aa (ak)))) (aa (ak)))) (aa (ak)))) (aa (ak)))) (aa (ak)))) (sn 1)))))
theorem lE:FnScope ["_law_bag_here", "_law_sixes", "_law_number", "_law_k"] ["_law_bag_here", "_law_sixes"] (aL (top 40)):=⟨rfl,rfl,rfl,by decide +kernel,rfl,by decide +kernel,by decide +kernel⟩
theorem CP (T:Known K mg "_law_far" (top 40) ["_law_bag_here", "_law_sixes"]) (ht:P.given.tree=none) (n_range:mg "range" = none) (G__law_take:Prm P w K mg base "_law_take" 35 ["_law_bag_here", "_law_many"] (bj K 2 true bh)):Prm P w K mg base "_law_far" 36 ["_law_bag_here", "_law_sixes"] (bj K 2 true gA):=by
 refine T.sem lE ht ?_
 rintro _ cdv f A outer s H E rfl hc
 exact aA (bH (i:=2) rfl lE.nd rfl (by first | exact .inl rfl | exact .inr rfl) (ak))
   (aA (fW PassesOwn.never hc.calm (dW rfl n_range (aj (sn 1) ao)) (aM (i:=3) rfl lE.nd rfl (by first | exact .inl rfl | exact .inr rfl))
   (aQ (bH (i:=2) rfl lE.nd rfl (by first | exact .inl rfl | exact .inr rfl) (aJ bu bI (aa (aJ bx bM (sn 2) (aa (aJ wO oE (aa (ak)) (aa (ak)))))) (aa (fc G__law_take (hc.room.mono (by decide)) rfl (aj (sn 0) (aj (aa (aJ wO oE (aa (ak)) (aa (ak)))) ao))))))))
   (aQ (pM (i:=2) rfl rfl (by first | exact .inl rfl | exact .inr (.inl rfl) | exact .inr (.inr rfl)))))
theorem oV:FnScope ["_law_one", "_law_other"] ["_law_one", "_law_other"] (aL (top 41)):=⟨rfl,rfl,rfl,by decide +kernel,rfl,by decide +kernel,by decide +kernel⟩
theorem wB (T:Known K mg "_law_common" (top 41) ["_law_one", "_law_other"]) (ht:P.given.tree=none) (n_abs:mg "abs" = none):Prm P w K mg base "_law_common" 35 ["_law_one", "_law_other"] (bj K 2 false eY):=by
 refine T.sem oV ht ?_
 rintro _ cdv f A outer s H E rfl hc
 exact aA (Dr PassesOwn.never (fV (oR hc.room.units) lu (sn 1) (aa (ak)) (dI _)) (aQ (Oj (i:=0) (j:=1) rfl rfl hc.calm oV.nd rfl rfl (by decide) rfl rfl (aj (sn 1) (aj (aa (aJ gG fG (sn 0) (sn 1))) ao)) rfl)))
   (aQ (bO (bT uY vo rfl n_abs DR (aj (sn 0) ao))))
theorem jZ:FnScope ["_law_top", "_law_bottom", "_law_part"] ["_law_top", "_law_bottom"] (aL (top 42)):=⟨rfl,rfl,rfl,by decide +kernel,rfl,by decide +kernel,by decide +kernel⟩
theorem wF (T:Known K mg "_law_lowest" (top 42) ["_law_top", "_law_bottom"]) (ht:P.given.tree=none) (G__law_common:Prm P w K mg base "_law_common" 35 ["_law_one", "_law_other"] (bj K 2 false eY)):Prm P w K mg base "_law_lowest" 36 ["_law_top", "_law_bottom"] (bj K 2 false bR):=by
 refine T.sem jZ ht ?_
 rintro _ cdv f A outer s H E rfl hc
 exact aA (bH (i:=2) rfl jZ.nd rfl (by first | exact .inl rfl | exact .inr rfl) (bN G__law_common (hc.room.mono (by decide)) rfl (aj (sn 0) (aj (sn 1) ao))))
   (aA (gR (fV Hx uy (sn 1) (aa (ak)) (dI _))
   (aQ (bH (i:=2) rfl jZ.nd rfl (by first | exact .inl rfl | exact .inr rfl) (aJ nA iI (aa (ak)) (sn 2))))
   (fj))
   (aQ (bO (fJ (aj (aa (aJ (jt (Cc.mono hc (by decide))) iy (sn 0) (sn 2))) (aj (aa (aJ (jt (Cc.mono hc (by decide))) iy (sn 1) (sn 2))) ao))))))
theorem zZ:FnScope ["_law_u", "_law_v"] ["_law_u", "_law_v"] (aL (top 43)):=⟨rfl,rfl,rfl,by decide +kernel,rfl,by decide +kernel,by decide +kernel⟩
theorem zK (T:Known K mg "_law_plus" (top 43) ["_law_u", "_law_v"]) (ht:P.given.tree=none) (G__law_lowest:Prm P w K mg base "_law_lowest" 36 ["_law_top", "_law_bottom"] (bj K 2 false bR)):Prm P w K mg base "_law_plus" 37 ["_law_u", "_law_v"] (bj K 2 false fO):=by
 refine T.sem zZ ht ?_
 rintro _ cdv f A outer s H E rfl hc
 exact aQ (bO (bN G__law_lowest (hc.room.mono (by decide)) rfl (aj (aa (aJ bu bI (aa (aJ bx bM (aa (aH (sn 0) (aa (ak)) (fun _ _=>rfl))) (aa (aH (sn 1) (aa (ak)) (fun _ _=>rfl))))) (aa (aJ bx bM (aa (aH (sn 1) (aa (ak)) (fun _ _=>rfl))) (aa (aH (sn 0) (aa (ak)) (fun _ _=>rfl))))))) (aj (aa (aJ bx bM (aa (aH (sn 0) (aa (ak)) (fun _ _=>rfl))) (aa (aH (sn 1) (aa (ak)) (fun _ _=>rfl))))) ao))))
theorem yc:FnScope ["_law_u", "_law_v"] ["_law_u", "_law_v"] (aL (top 44)):=⟨rfl,rfl,rfl,by decide +kernel,rfl,by decide +kernel,by decide +kernel⟩
theorem xX (T:Known K mg "_law_times" (top 44) ["_law_u", "_law_v"]) (ht:P.given.tree=none) (G__law_lowest:Prm P w K mg base "_law_lowest" 36 ["_law_top", "_law_bottom"] (bj K 2 false bR)):Prm P w K mg base "_law_times" 37 ["_law_u", "_law_v"] (bj K 2 false dz):=by
 refine T.sem yc ht ?_
 rintro _ cdv f A outer s H E rfl hc
 exact aQ (bO (bN G__law_lowest (hc.room.mono (by decide)) rfl (aj (aa (aJ bx bM (aa (aH (sn 0) (aa (ak)) (fun _ _=>rfl))) (aa (aH (sn 1) (aa (ak)) (fun _ _=>rfl))))) (aj (aa (aJ bx bM (aa (aH (sn 0) (aa (ak)) (fun _ _=>rfl))) (aa (aH (sn 1) (aa (ak)) (fun _ _=>rfl))))) ao))))
theorem nH:FnScope ["_law_bag_here", "_law_one", "_law_other", "_law_stiffness", "_law_most"] ["_law_bag_here", "_law_one", "_law_other"] (aL (top 45)):=⟨rfl,rfl,rfl,by decide +kernel,rfl,by decide +kernel,by decide +kernel⟩
theorem zJ (T:Known K mg "_law_line" (top 45) ["_law_bag_here", "_law_one", "_law_other"]) (ht:P.given.tree=none) (G__law_take:Prm P w K mg base "_law_take" 35 ["_law_bag_here", "_law_many"] (bj K 2 true bh)):Prm P w K mg base "_law_line" 36 ["_law_bag_here", "_law_one", "_law_other"] (bj K 3 true iz):=by
 refine T.sem nH ht ?_
 rintro _ cdv f A outer s H E rfl hc
 exact aA (bH (i:=3) rfl nH.nd rfl (by first | exact .inl rfl | exact .inr rfl) (aJ bu bI (aa (ak)) (aa (fc G__law_take (hc.room.mono (by decide)) rfl (aj (sn 0) (aj (aa (ak)) ao))))))
   (aA (bH (i:=4) rfl nH.nd rfl (by first | exact .inl rfl | exact .inr rfl) (fc G__law_take (hc.room.mono (by decide)) rfl (aj (sn 0) (aj (aa (ak)) ao))))
   (aA (gR (fV (nu hc.room.units) jE (aa (fc G__law_take (hc.room.mono (by decide)) rfl (aj (sn 0) (aj (aa (ak)) ao)))) (aa (ak)) (dI _))
   (aQ (bO (fJ (aj (aa (sv 2)) (aj (aa (sv 1)) (aj (aa (sv 3)) (aj (aa (sv 4)) ao)))))))
   (fj))
   (aQ (bO (fJ (aj (aa (sv 1)) (aj (aa (sv 2)) (aj (aa (sv 3)) (aj (aa (sv 4)) ao)))))))))
theorem gD:FnScope ["_law_bag_here", "_law_many", "_law_lines", "_law_place", "_law_k", "_law_one", "_law_other"] ["_law_bag_here"] (aL (top 46)):=⟨rfl,rfl,rfl,by decide +kernel,rfl,by decide +kernel,by decide +kernel⟩
theorem CQ (T:Known K mg "_law_net" (top 46) ["_law_bag_here"]) (ht:P.given.tree=none) (n_int:mg "int" = none) (n_len:mg "len" = none) (n_range:mg "range" = none) (n_tuple:mg "tuple" = none) (G__law_take:Prm P w K mg base "_law_take" 35 ["_law_bag_here", "_law_many"] (bj K 2 true bh)) (G__law_line:Prm P w K mg base "_law_line" 36 ["_law_bag_here", "_law_one", "_law_other"] (bj K 3 true iz)):Prm P w K mg base "_law_net" 37 ["_law_bag_here"] (bj K 1 true jd):=by
 refine T.sem gD ht ?_
 rintro _ cdv f A outer s H E rfl hc
 exact aA (bH (i:=1) rfl gD.nd rfl (by first | exact .inl rfl | exact .inr rfl) (iT ik fP (aa (@uL _ _ _ _ (dY rfl (aa (ak)) (dY rfl (aa (ak)) (dY rfl (aa (ak)) (dY rfl (aa (ak)) (dY rfl (aa (ak)) (dY rfl (aa (ak)) (dY rfl (aa (ak)) (dY rfl (aa (ak)) nG)))))))))) (aa (fc G__law_take (hc.room.mono (by decide)) rfl (aj (sn 0) (aj (aa (ak)) ao)))) (fun _ _=>rfl)))
   (aA (bH (i:=2) rfl gD.nd rfl (by first | exact .inl rfl | exact .inr rfl) (gf ao))
   (aA (fW PassesOwn.never hc.calm (tG rfl n_range (aj (aa (ak)) (aj (sn 1) ao))) (aM (i:=3) rfl gD.nd rfl (by first | exact .inl rfl | exact .inr rfl))
   (aQ (jm (oZ (i:=2) PySem.F.slot_list_append PySem.F.type_list_append pH pA rfl (by first | exact .inl rfl | exact .inr (.inl rfl) | exact .inr (.inr rfl)) (aj (aa (fc G__law_line (hc.room.mono (by decide)) rfl (aj (sn 0) (aj (sn 3) (aj (aa (fc G__law_take (hc.room.mono (by decide)) rfl (aj (sn 0) (aj (sn 3) ao)))) ao))))) ao)))))
   (aA (fW PassesOwn.never hc.calm (dW rfl n_range (aj (aa (aJ bx bM (aa (fc G__law_take (hc.room.mono (by decide)) rfl (aj (sn 0) (aj (aa (aJ nA iI (aa (ak)) (aa (bT cY fY rfl n_len ju (aj (sn 2) ao))))) ao)))) (aa (jK yo BJ rfl n_int DW (aj (aa (tD Tt Gp (sn 1) (aa (ak)) (dI _))) ao))))) ao)) (aM (i:=4) rfl gD.nd rfl (by first | exact .inl rfl | exact .inr rfl))
   (aA (bH (i:=5) rfl gD.nd rfl (by first | exact .inl rfl | exact .inr rfl) (fc G__law_take (hc.room.mono (by decide)) rfl (aj (sn 0) (aj (sn 1) ao))))
   (aA (bH (i:=6) rfl gD.nd rfl (by first | exact .inl rfl | exact .inr rfl) (aJ gG fG (aa (aJ bu bI (aa (aJ bu bI (sn 5) (aa (ak)))) (aa (fc G__law_take (hc.room.mono (by decide)) rfl (aj (sn 0) (aj (aa (aJ nA iI (sn 1) (aa (ak)))) ao)))))) (sn 1)))
   (aQ (jm (oZ (i:=2) PySem.F.slot_list_insert PySem.F.type_list_insert sY sJ rfl (by first | exact .inl rfl | exact .inr (.inl rfl) | exact .inr (.inr rfl)) (aj (aa (fc G__law_take (hc.room.mono (by decide)) rfl (aj (sn 0) (aj (aa (aJ bu bI (aa (bT cY fY rfl n_len ju (aj (sn 2) ao))) (aa (ak)))) ao)))) (aj (aa (fc G__law_line (hc.room.mono (by decide)) rfl (aj (sn 0) (aj (sn 5) (aj (sn 6) ao))))) ao))))))))
   (aQ (bO (fJ (aj (aa (sv 1)) (aj (aa (jK xU Eg rfl n_tuple uX (aj (sn 2) ao))) ao))))))))
theorem cU:FnScope ["_law_many", "_law_lines", "_law_heap", "_law_one", "_law_other", "_law_stiffness", "_law_most", "_law_low", "_law_high"] ["_law_many", "_law_lines"] (aL (top 47)):=⟨rfl,rfl,rfl,by decide +kernel,rfl,by decide +kernel,by decide +kernel⟩
theorem wC (T:Known K mg "_law_joined" (top 47) ["_law_many", "_law_lines"]) (ht:P.given.tree=none) (n_int:mg "int" = none) (n_list:mg "list" = none) (n_max:mg "max" = none) (n_min:mg "min" = none) (n_range:mg "range" = none):Prm P w K mg base "_law_joined" 35 ["_law_many", "_law_lines"] (bj K 2 false gK):=by
 refine T.sem cU ht ?_
 rintro _ cdv f A outer s H E rfl hc
 exact aA (bH (i:=2) rfl cU.nd rfl (by first | exact .inl rfl | exact .inr rfl) (rE hc.calm rfl n_list rfl n_range (aj (sn 0) ao)))
   (aA (fW PassesOwn.never hc.calm (dZ (sv 1)) (iU hc.calm (bA (aM (i:=3) rfl cU.nd rfl (by first | exact .inl rfl | exact .inr rfl)) (bA (aM (i:=4) rfl cU.nd rfl (by first | exact .inl rfl | exact .inr rfl)) (bA (aM (i:=5) rfl cU.nd rfl (by first | exact .inl rfl | exact .inr rfl)) (bA (aM (i:=6) rfl cU.nd rfl (by first | exact .inl rfl | exact .inr rfl)) gk)))) (goN [3,4,5,6]))
   (aA (bH (i:=7) rfl cU.nd rfl (by first | exact .inl rfl | exact .inr rfl) (bT (su hc.calm) vy rfl n_min DX (aj (aa (aH (sn 2) (sn 3) (fun _ _=>rfl))) (aj (aa (aH (sn 2) (sn 4) (fun _ _=>rfl))) ao))))
   (aA (bH (i:=8) rfl cU.nd rfl (by first | exact .inl rfl | exact .inr rfl) (bT (yp hc.calm) BL rfl n_max JV (aj (aa (aH (sn 2) (sn 3) (fun _ _=>rfl))) (aj (aa (aH (sn 2) (sn 4) (fun _ _=>rfl))) ao))))
   (aQ (gZ (i:=2) (own:=["_law_head"]) (fr:=[7,8]) rfl cU.nd rfl (by first | exact .inl rfl | exact .inr rfl) hc.calm (dZ (sv 2)) (CScope.of (by rfl)) (by decide) (fun _ _ _ _ _=>(aM (i:=0) rfl (dh (by rfl)) rfl (by first | exact .inl rfl | exact .inr rfl))) (fun _ _ _ _ _=>cM) (fun _ _ _ _ _=>(iT ik fP (aa (gf (aj (aa (sv 0)) (aj (aa (sv 1)) ao)))) (aa (jK yo BJ rfl n_int DW (aj (aa (tD (nu hc.room.units) jE (sn 0) (sn 2) (dI _))) ao))) (fun _ _=>rfl))))))))
   (aQ (bO (tD (nu hc.room.units) jE (sn 2) (aa (aJ bx bM (aa (gf (aj (aa (ak)) ao))) (sn 0))) (dI _)))))
theorem cX:FnScope ["_law_rows", "_law_total", "_law_k", "_law_rest"] ["_law_rows"] (aL (top 48)):=⟨rfl,rfl,rfl,by decide +kernel,rfl,by decide +kernel,by decide +kernel⟩
theorem jA (T:Known K mg "_law_size_number" (top 48) ["_law_rows"]) (ht:P.given.tree=none) (n_len:mg "len" = none) (n_range:mg "range" = none):∀ m:Nat,Prm P w K mg base "_law_size_number" (35+m) ["_law_rows"] (bj K 1 false (aU m))
 | 0=>T.sem cX ht (by rintro _ cdv f A outer s H E rfl hc;exact Oh)
 | m+1=>by
  have G__law_size_number:=jA T ht n_len n_range m
  refine T.sem (k:=35+m) cX ht ?_
  rintro _ cdv f A outer s H E rfl hc
  exact aA (gR (fV (nu hc.room.units) jE (sn 0) (aa (gf ao)) (dI _))
    (aQ (bO (ak)))
    (fj))
    (aA (bH (i:=1) rfl cX.nd rfl (by first | exact .inl rfl | exact .inr rfl) (ak))
    (aA (fW PassesOwn.never hc.calm (dW rfl n_range (aj (aa (bT cY fY rfl n_len ju (aj (sn 0) ao))) ao)) (aM (i:=2) rfl cX.nd rfl (by first | exact .inl rfl | exact .inr rfl))
    (aA (gZ (i:=3) (own:=["_law_row"]) (fr:=[]) rfl cX.nd rfl (by first | exact .inl rfl | exact .inr rfl) hc.calm (dZ (aJ bu bI (aa (pJ (sn 0) (sn 2))) (aa (jl (sn 0) (aa (aJ bu bI (sn 2) (aa (ak)))))))) (CScope.of (by rfl)) (by decide) (fun _ _ _ _ _=>(aM (i:=0) rfl (dh (by rfl)) rfl (by first | exact .inl rfl | exact .inr rfl))) (fun _ _ _ _ _=>cM) (fun _ _ _ _ _=>(jl (sn 0) (aa (ak)))))
    (aQ (bH (i:=1) rfl cX.nd rfl (by first | exact .inl rfl | exact .inr rfl) (aJ bu bI (sn 1) (aa (aJ bx bM (aa (aJ bx bM (aa (iT ik fP (aa (gf (aj (aa (ak)) (aj (aa (Dn xP oA (aa (ak)))) ao)))) (aa (aJ gG fG (sn 2) (aa (ak)))) (fun _ _=>rfl))) (aa (iT ik fP (aa (aH (sn 0) (sn 2) (fun _ _=>rfl))) (aa (ak)) (fun _ _=>rfl))))) (aa (bN G__law_size_number (hc.room.mono (by omega)) rfl (aj (sn 3) ao))))))))))
    (aQ (pM (i:=1) rfl rfl (by first | exact .inl rfl | exact .inr (.inl rfl) | exact .inr (.inr rfl))))))
theorem bF:FnScope ["_law_net_here", "_law_ends", "_law_many", "_law_lines", "_law_bottom", "_law_u", "_law_rows", "_law_one", "_law_other", "_law_stiffness", "_law_most", "_law_right", "_law_high", "_law_k", "_law_part"] ["_law_net_here", "_law_ends"] (aL (top 49)):=⟨rfl,rfl,rfl,by decide +kernel,rfl,by decide +kernel,by decide +kernel⟩
theorem uq (T:Known K mg "_law_running" (top 49) ["_law_net_here", "_law_ends"]) (ht:P.given.tree=none) (n_range:mg "range" = none) (n_zip:mg "zip" = none) (G__law_common:Prm P w K mg base "_law_common" 35 ["_law_one", "_law_other"] (bj K 2 false eY)) (G__law_size_number:Prm P w K mg base "_law_size_number" 39 ["_law_rows"] (bj K 1 false (aU 4))) (G__law_lowest:Prm P w K mg base "_law_lowest" 36 ["_law_top", "_law_bottom"] (bj K 2 false bR)):Prm P w K mg base "_law_running" 40 ["_law_net_here", "_law_ends"] (bj K 2 false cL):=by
 refine T.sem bF ht ?_
 rintro _ cdv f A outer s H E rfl hc
 exact aA (FJ (sv 0) (iU hc.calm (bA (aM (i:=2) rfl bF.nd rfl (by first | exact .inl rfl | exact .inr rfl)) (bA (aM (i:=3) rfl bF.nd rfl (by first | exact .inl rfl | exact .inr rfl)) gk)) (goN [2,3])))
   (aA (bH (i:=4) rfl bF.nd rfl (by first | exact .inl rfl | exact .inr rfl) (ak))
   (aA (fW PassesOwn.never hc.calm (dZ (sv 1)) (aM (i:=5) rfl bF.nd rfl (by first | exact .inl rfl | exact .inr rfl))
   (aQ (bH (i:=4) rfl bF.nd rfl (by first | exact .inl rfl | exact .inr rfl) (aJ (jt (Cc.mono hc (by decide))) iy (aa (aJ bx bM (sn 4) (aa (aH (sn 5) (aa (ak)) (fun _ _=>rfl))))) (aa (bN G__law_common (hc.room.mono (by decide)) rfl (aj (sn 4) (aj (aa (aH (sn 5) (aa (ak)) (fun _ _=>rfl))) ao))))))))
   (aA (gZ (i:=6) (own:=["_law_place"]) (fr:=[2]) rfl bF.nd rfl (by first | exact .inl rfl | exact .inr rfl) hc.calm (dW rfl n_range (aj (sn 2) ao)) (CScope.of (by rfl)) (by decide) (fun _ _ _ _ _=>(aM (i:=0) rfl (dh (by rfl)) rfl (by first | exact .inl rfl | exact .inr rfl))) (fun _ _ _ _ _=>cM) (fun _ _ _ _ _=>(aJ bx bM (aa (gf (aj (aa (ak)) ao))) (sn 1))))
   (aA (fW PassesOwn.never hc.calm (dZ (sv 3)) (iU hc.calm (bA (aM (i:=7) rfl bF.nd rfl (by first | exact .inl rfl | exact .inr rfl)) (bA (aM (i:=8) rfl bF.nd rfl (by first | exact .inl rfl | exact .inr rfl)) (bA (aM (i:=9) rfl bF.nd rfl (by first | exact .inl rfl | exact .inr rfl)) (bA (aM (i:=10) rfl bF.nd rfl (by first | exact .inl rfl | exact .inr rfl)) gk)))) (goN [7,8,9,10]))
   (aA (lH zx (pvn 6) (pvn 7) (pvn 7) (pvn 9) (fun _ _=>rfl))
   (aA (lH zx (pvn 6) (pvn 8) (pvn 8) (pvn 9) (fun _ _=>rfl))
   (aA (lH zy (pvn 6) (pvn 7) (pvn 8) (pvn 9) (fun _ _=>rfl))
   (aQ (lH zy (pvn 6) (pvn 8) (pvn 7) (pvn 9) (fun _ _=>rfl)))))))
   (aA (gZ (i:=6) (own:=["_law_row"]) (fr:=[]) rfl bF.nd rfl (by first | exact .inl rfl | exact .inr rfl) hc.calm (dZ (jl (aa (sv 6)) (aa (ak)))) (CScope.of (by rfl)) (by decide) (fun _ _ _ _ _=>(aM (i:=0) rfl (dh (by rfl)) rfl (by first | exact .inl rfl | exact .inr rfl))) (fun _ _ _ _ _=>cM) (fun _ _ _ _ _=>(jl (sn 0) (aa (ak)))))
   (aA (gZ (i:=11) (own:=["_law_u"]) (fr:=[4]) rfl bF.nd rfl (by first | exact .inl rfl | exact .inr rfl) hc.calm (dZ (jl (sn 1) (aa (ak)))) (CScope.of (by rfl)) (by decide) (fun _ _ _ _ _=>(aM (i:=0) rfl (dh (by rfl)) rfl (by first | exact .inl rfl | exact .inr rfl))) (fun _ _ _ _ _=>cM) (fun _ _ _ _ _=>(aJ bx bM (aa (aH (sn 0) (aa (ak)) (fun _ _=>rfl))) (aa (aJ (jt (Cc.mono hc.comp (by decide))) iy (sn 1) (aa (aH (sn 0) (aa (ak)) (fun _ _=>rfl))))))))
   (aA (bH (i:=12) rfl bF.nd rfl (by first | exact .inl rfl | exact .inr rfl) (gf (aj (aa (ak)) ao)))
   (aA (fW PassesOwn.never hc.calm (dW rfl n_range (aj (aa (aJ nA iI (sn 2) (aa (ak)))) ao)) (aM (i:=13) rfl bF.nd rfl (by first | exact .inl rfl | exact .inr rfl))
   (aQ (jm (oZ (i:=12) PySem.F.slot_list_append PySem.F.type_list_append pH pA rfl (by first | exact .inl rfl | exact .inr (.inl rfl) | exact .inr (.inr rfl)) (aj (aa (bN G__law_size_number (hc.room.mono (by decide)) rfl (aj (aa (gj (own:=["_law_row", "_law_end"]) (fr:=[13]) hc.calm (Ae rfl n_zip (sv 6) (sv 11)) (CScope.of (by rfl)) (by decide) (fun _ _ _ _ _=>(iU hc.calm (bA (aM (i:=0) rfl (dh (by rfl)) rfl (by first | exact .inl rfl | exact .inr rfl)) (bA (aM (i:=1) rfl (dh (by rfl)) rfl (by first | exact .inl rfl | exact .inr rfl)) gk)) (goN [0,1]))) (fun _ _ _ _ _=>cM) (fun _ _ _ _ _=>(aJ bu bI (aa (aJ bu bI (aa (pJ (sn 0) (sn 2))) (aa (gf (aj (aa (sv 1)) ao))))) (aa (jl (sn 0) (aa (aJ bu bI (sn 2) (aa (ak)))))))))) ao))) ao)))))
   (aA (bH (i:=14) rfl bF.nd rfl (by first | exact .inl rfl | exact .inr rfl) (aJ bx bM (aa (bN G__law_size_number (hc.room.mono (by decide)) rfl (aj (sn 6) ao))) (sn 4)))
   (aQ (bO (gj (own:=["_law_line_here"]) (fr:=[12,14]) hc.calm (dZ (sv 3)) (CScope.of (by rfl)) (by decide) (fun _ _ _ _ _=>(aM (i:=0) rfl (dh (by rfl)) rfl (by first | exact .inl rfl | exact .inr rfl))) (fun _ _ _ _ _=>cM) (fun _ _ _ _ _=>(bN G__law_lowest (hc.room.mono (by decide)) rfl (aj (aa (aJ bx bM (aa (aH (sn 0) (aa (ak)) (fun _ _=>rfl))) (aa (aJ nA iI (aa (aH (sn 1) (aa (aH (sn 0) (aa (ak)) (fun _ _=>rfl))) (fun _ _=>rfl))) (aa (aH (sn 1) (aa (aH (sn 0) (aa (ak)) (fun _ _=>rfl))) (fun _ _=>rfl))))))) (aj (sn 2) ao))))))))))))))))
theorem iC:FnScope ["_law_net_here", "_law_ends", "_law_lost", "_law_found"] ["_law_net_here", "_law_ends", "_law_lost"] (aL (top 50)):=⟨rfl,rfl,rfl,by decide +kernel,rfl,by decide +kernel,by decide +kernel⟩
theorem lZ (T:Known K mg "_law_running_without" (top 50) ["_law_net_here", "_law_ends", "_law_lost"]) (ht:P.given.tree=none) (G__law_running:Prm P w K mg base "_law_running" 40 ["_law_net_here", "_law_ends"] (bj K 2 false cL)):Prm P w K mg base "_law_running_without" 41 ["_law_net_here", "_law_ends", "_law_lost"] (bj K 3 false cA):=by
 refine T.sem iC ht ?_
 rintro _ cdv f A outer s H E rfl hc
 exact aA (bH (i:=3) rfl iC.nd rfl (by first | exact .inl rfl | exact .inr rfl) (bN G__law_running (hc.room.mono (by decide)) rfl (aj (aa (fJ (aj (aa (aH (sn 0) (aa (ak)) (fun _ _=>rfl))) (aj (aa (aJ bu bI (aa (pJ (aa (aH (sn 0) (aa (ak)) (fun _ _=>rfl))) (sn 2))) (aa (jl (aa (aH (sn 0) (aa (ak)) (fun _ _=>rfl))) (aa (aJ bu bI (sn 2) (aa (ak)))))))) ao)))) (aj (sn 1) ao))))
   (aQ (bO (aJ bu bI (aa (aJ bu bI (aa (pJ (sn 3) (sn 2))) (aa (@uL _ _ _ _ (tB rfl (Ad (dY rfl (aa (ak)) (dY rfl (aa (ak)) nG))) nG))))) (aa (jl (sn 3) (sn 2))))))
theorem cH:FnScope ["_law_bag_here", "_law_net_here", "_law_sixes", "_law_small", "_law_bottom", "_law_tops", "_law_place", "_law_top", "_law_running_here", "_law_ends", "_law_line_here", "_law_stream"] ["_law_bag_here", "_law_net_here"] (aL (top 51)):=⟨rfl,rfl,rfl,by decide +kernel,rfl,by decide +kernel,by decide +kernel⟩
theorem wD (T:Known K mg "_law_lifted" (top 51) ["_law_bag_here", "_law_net_here"]) (ht:P.given.tree=none) (n_range:mg "range" = none) (n_zip:mg "zip" = none) (G__law_take:Prm P w K mg base "_law_take" 35 ["_law_bag_here", "_law_many"] (bj K 2 true bh)) (G__law_far:Prm P w K mg base "_law_far" 36 ["_law_bag_here", "_law_sixes"] (bj K 2 true gA)) (G__law_lowest:Prm P w K mg base "_law_lowest" 36 ["_law_top", "_law_bottom"] (bj K 2 false bR)):Prm P w K mg base "_law_lifted" 37 ["_law_bag_here", "_law_net_here"] (bj K 2 true dJ):=by
 refine T.sem cH ht ?_
 rintro _ cdv f A outer s H E rfl hc
 exact aA (bH (i:=2) rfl cH.nd rfl (by first | exact .inl rfl | exact .inr rfl) (iT ik fP (aa (gf (aj (aa (ak)) (aj (aa (ak)) (aj (aa (ak)) (aj (aa (ak)) ao)))))) (aa (fc G__law_take (hc.room.mono (by decide)) rfl (aj (sn 0) (aj (aa (ak)) ao)))) (fun _ _=>rfl)))
   (aA (bH (i:=3) rfl cH.nd rfl (by first | exact .inl rfl | exact .inr rfl) (fc G__law_take (hc.room.mono (by decide)) rfl (aj (sn 0) (aj (aa (ak)) ao))))
   (aA (bH (i:=4) rfl cH.nd rfl (by first | exact .inl rfl | exact .inr rfl) (aJ bu bI (aa (ak)) (aa (iT ik fP (aa (gf (aj (aa (fc G__law_take (hc.room.mono (by decide)) rfl (aj (sn 0) (aj (aa (ak)) ao)))) (aj (aa (fc G__law_far (hc.room.mono (by decide)) rfl (aj (sn 0) (aj (sn 2) ao)))) ao)))) (sn 3) (fun _ _=>rfl)))))
   (aA (bH (i:=5) rfl cH.nd rfl (by first | exact .inl rfl | exact .inr rfl) (gf (aj (aa (ak)) ao)))
   (aA (fW PassesOwn.never hc.calm (tG rfl n_range (aj (aa (ak)) (aj (aa (aH (sn 1) (aa (ak)) (fun _ _=>rfl))) ao))) (aM (i:=6) rfl cH.nd rfl (by first | exact .inl rfl | exact .inr rfl))
   (aA (bH (i:=7) rfl cH.nd rfl (by first | exact .inl rfl | exact .inr rfl) (iT ik fP (aa (gf (aj (aa (fc G__law_take (hc.room.mono (by decide)) rfl (aj (sn 0) (aj (aa (ak)) ao)))) (aj (aa (fc G__law_far (hc.room.mono (by decide)) rfl (aj (sn 0) (aj (sn 2) ao)))) ao)))) (sn 3) (fun _ _=>rfl)))
   (aQ (jm (oZ (i:=5) PySem.F.slot_list_append PySem.F.type_list_append pH pA rfl (by first | exact .inl rfl | exact .inr (.inl rfl) | exact .inr (.inr rfl)) (aj (aa (aJ bx bM (sn 7) (aa (iT ik fP (aa (gf (aj (aa (ak)) (aj (aa (Dn xP oA (aa (ak)))) ao)))) (aa (fc G__law_take (hc.room.mono (by decide)) rfl (aj (sn 0) (aj (aa (ak)) ao)))) (fun _ _=>rfl))))) ao))))))
   (aA (gZ (i:=8) (own:=["_law_line_here"]) (fr:=[5]) rfl cH.nd rfl (by first | exact .inl rfl | exact .inr rfl) hc.calm (dZ (aH (sn 1) (aa (ak)) (fun _ _=>rfl))) (CScope.of (by rfl)) (by decide) (fun _ _ _ _ _=>(aM (i:=0) rfl (dh (by rfl)) rfl (by first | exact .inl rfl | exact .inr rfl))) (fun _ _ _ _ _=>cM) (fun _ _ _ _ _=>(aJ bx bM (aa (aH (sn 0) (aa (ak)) (fun _ _=>rfl))) (aa (aJ nA iI (aa (aH (sn 1) (aa (aH (sn 0) (aa (ak)) (fun _ _=>rfl))) (fun _ _=>rfl))) (aa (aH (sn 1) (aa (aH (sn 0) (aa (ak)) (fun _ _=>rfl))) (fun _ _=>rfl))))))))
   (aA (bH (i:=9) rfl cH.nd rfl (by first | exact .inl rfl | exact .inr rfl) (aJ bx bM (aa (gf (aj (aa (ak)) ao))) (aa (aH (sn 1) (aa (ak)) (fun _ _=>rfl)))))
   (aA (fW PassesOwn.never hc.calm (RV rfl n_zip (aH (sn 1) (aa (ak)) (fun _ _=>rfl)) (sv 8)) (iU hc.calm (bA (aM (i:=10) rfl cH.nd rfl (by first | exact .inl rfl | exact .inr rfl)) (bA (aM (i:=11) rfl cH.nd rfl (by first | exact .inl rfl | exact .inr rfl)) gk)) (goN [10,11]))
   (aA (mK (i:=9) rfl (by first | exact .inl rfl | exact .inr (.inl rfl) | exact .inr (.inr rfl)) (aJ bu bI (aa (aH (sn 9) (aa (aH (sn 10) (aa (ak)) (fun _ _=>rfl))) (fun _ _=>rfl))) (sn 11)) (aa (aH (sn 10) (aa (ak)) (fun _ _=>rfl))))
   (aQ (mK (i:=9) rfl (by first | exact .inl rfl | exact .inr (.inl rfl) | exact .inr (.inr rfl)) (aJ nA iI (aa (aH (sn 9) (aa (aH (sn 10) (aa (ak)) (fun _ _=>rfl))) (fun _ _=>rfl))) (sn 11)) (aa (aH (sn 10) (aa (ak)) (fun _ _=>rfl)))))))
   (aQ (bO (gj (own:=["_law_some"]) (fr:=[4]) hc.calm (dZ (gf (aj (aa (sv 5)) (aj (aa (sv 8)) (aj (aa (sv 9)) ao))))) (CScope.of (by rfl)) (by decide) (fun _ _ _ _ _=>(aM (i:=0) rfl (dh (by rfl)) rfl (by first | exact .inl rfl | exact .inr rfl))) (fun _ _ _ _ _=>cM) (fun _ _ _ _ _=>(gj (own:=["_law_number"]) (fr:=[1]) hc.calm (dZ (sv 0)) (CScope.of (by rfl)) (by decide) (fun _ _ _ _ _=>(aM (i:=0) rfl (dh (by rfl)) rfl (by first | exact .inl rfl | exact .inr rfl))) (fun _ _ _ _ _=>cM) (fun _ _ _ _ _=>(bN G__law_lowest (hc.room.mono (by decide)) rfl (aj (sn 0) (aj (sn 1) ao))))))))))))))))
theorem zY:FnScope ["_law_found", "_law_due"] ["_law_found", "_law_due"] (aL (top 52)):=⟨rfl,rfl,rfl,by decide +kernel,rfl,by decide +kernel,by decide +kernel⟩
theorem zH (T:Known K mg "_law_like" (top 52) ["_law_found", "_law_due"]) (ht:P.given.tree=none) (n_all:mg "all" = none) (n_any:mg "any" = none) (n_bool:mg "bool" = none) (n_isinstance:mg "isinstance" = none) (n_list:mg "list" = none) (n_tuple:mg "tuple" = none):Prm P w K mg base "_law_like" 35 ["_law_found", "_law_due"] (bj K 2 false fM):=by
 refine T.sem zY ht ?_
 rintro _ cdv f A outer s H E rfl hc
 exact aA (gR (SW.b (Dt (jY (jy (aa (bT jn jo rfl n_isinstance dR (aj (sn 0) (aj (aa (uf rfl n_list qD)) ao)))))) (Dt (fV (oR hc.room.units) lu (sn 0) (sn 1) (dI _)) (Ai (jY (jy (aa (bT (JW hc.calm) Kh rfl n_all Uh (aj (aa (gj (own:=["_law_u"]) (fr:=[]) hc.calm (dZ (sv 0)) (CScope.of (by rfl)) (by decide) (fun _ _ _ _ _=>(aM (i:=0) rfl (dh (by rfl)) rfl (by first | exact .inl rfl | exact .inr rfl))) (fun _ _ _ _ _=>cM) (fun _ _ _ _ _=>(bT jn jo rfl n_isinstance dR (aj (sn 0) (aj (aa (uf rfl n_tuple uX)) ao)))))) ao)))))))))
   (aQ (bO (xr)))
   (fj))
   (aQ (bO (Ob (bT (JX hc.calm) Kl rfl n_any Ui (aj (aa (gj (own:=["_law_u"]) (fr:=[]) hc.calm (dZ (sv 0)) (CScope.of (by rfl)) (by decide) (fun _ _ _ _ _=>(aM (i:=0) rfl (dh (by rfl)) rfl (by first | exact .inl rfl | exact .inr rfl))) (fun _ _ _ _ _=>cM) (fun _ _ _ _ _=>(Yt (bT jn jo rfl n_isinstance dR (aj (aa (aH (sn 0) (aa (ak)) (fun _ _=>rfl))) (aj (aa (uf rfl n_bool yU)) ao))) (rD (bT jn jo rfl n_isinstance dR (aj (aa (aH (sn 0) (aa (ak)) (fun _ _=>rfl))) (aj (aa (uf rfl n_bool yU)) ao)))))))) ao)))))
theorem xf:FnScope ["_law_net_here"] ["_law_net_here"] (aL (top 53)):=⟨rfl,rfl,rfl,by decide +kernel,rfl,by decide +kernel,by decide +kernel⟩
theorem wA (T:Known K mg "_law_can_go" (top 53) ["_law_net_here"]) (ht:P.given.tree=none) (n_len:mg "len" = none) (n_range:mg "range" = none) (G__law_joined:Prm P w K mg base "_law_joined" 35 ["_law_many", "_law_lines"] (bj K 2 false gK)):Prm P w K mg base "_law_can_go" 36 ["_law_net_here"] (bj K 1 false fZ):=by
 refine T.sem xf ht ?_
 rintro _ cdv f A outer s H E rfl hc
 exact aQ (bO (gj (own:=["_law_k"]) (fr:=[0]) hc.calm (dW rfl n_range (aj (aa (bT cY fY rfl n_len ju (aj (aa (aH (sn 0) (aa (ak)) (fun _ _=>rfl))) ao))) ao)) (CScope.of (by rfl)) (by decide) (fun _ _ _ _ _=>(aM (i:=0) rfl (dh (by rfl)) rfl (by first | exact .inl rfl | exact .inr rfl))) (fun _ _ _ _ _=>(RK (jy (aa (bN G__law_joined (hc.room.mono (by decide)) rfl (aj (aa (aH (sn 1) (aa (ak)) (fun _ _=>rfl))) (aj (aa (aJ bu bI (aa (pJ (aa (aH (sn 1) (aa (ak)) (fun _ _=>rfl))) (sn 0))) (aa (jl (aa (aH (sn 1) (aa (ak)) (fun _ _=>rfl))) (aa (aJ bu bI (sn 0) (aa (ak)))))))) ao))))))) (fun _ _ _ _ _=>(sv 0))))
theorem dD:FnScope ["_law_net_here", "_law_ends", "_law_lost", "_law_ahead", "_law_carried", "_law_rest", "_law_part", "_law_found"] ["_law_net_here", "_law_ends", "_law_lost"] (aL (top 54)):=⟨rfl,rfl,rfl,by decide +kernel,rfl,by decide +kernel,by decide +kernel⟩
theorem qX (T:Known K mg "_law_by_shares" (top 54) ["_law_net_here", "_law_ends", "_law_lost"]) (ht:P.given.tree=none) (n_list:mg "list" = none) (n_zip:mg "zip" = none) (G_streams:Prm P w K mg base "streams" 42 ["net", "puts"] (bj K 2 false dq)) (G_shares:Prm P w K mg base "shares" 43 ["net", "one", "other"] (bj K 3 false mD)) (G__law_plus:Prm P w K mg base "_law_plus" 37 ["_law_u", "_law_v"] (bj K 2 false fO)) (G__law_times:Prm P w K mg base "_law_times" 37 ["_law_u", "_law_v"] (bj K 2 false dz)) (G__law_lowest:Prm P w K mg base "_law_lowest" 36 ["_law_top", "_law_bottom"] (bj K 2 false bR)):Prm P w K mg base "_law_by_shares" 44 ["_law_net_here", "_law_ends", "_law_lost"] (bj K 3 false di):=by
 refine T.sem dD ht ?_
 rintro _ cdv f A outer s H E rfl hc
 exact aA (bH (i:=3) rfl dD.nd rfl (by first | exact .inl rfl | exact .inr rfl) (bN G_streams (hc.room.mono (by decide)) rfl (aj (sn 0) (aj (aa (jK mR ou rfl n_list qD (aj (sn 1) ao))) ao))))
   (aA (bH (i:=4) rfl dD.nd rfl (by first | exact .inl rfl | exact .inr rfl) (bN G_shares (hc.room.mono (by decide)) rfl (aj (sn 0) (aj (aa (iT ik fP (aa (iT ik fP (aa (aH (sn 0) (aa (ak)) (fun _ _=>rfl))) (sn 2) (fun _ _=>rfl))) (aa (ak)) (fun _ _=>rfl))) (aj (aa (iT ik fP (aa (iT ik fP (aa (aH (sn 0) (aa (ak)) (fun _ _=>rfl))) (sn 2) (fun _ _=>rfl))) (aa (ak)) (fun _ _=>rfl))) ao)))))
   (aA (bH (i:=5) rfl dD.nd rfl (by first | exact .inl rfl | exact .inr rfl) (bN G__law_plus (hc.room.mono (by decide)) rfl (aj (aa (fJ (aj (aa (ak)) (aj (aa (ak)) ao)))) (aj (aa (bN G__law_times (hc.room.mono (by decide)) rfl (aj (aa (fJ (aj (aa (Dn xP oA (aa (ak)))) (aj (aa (ak)) ao)))) (aj (aa (aH (sn 4) (sn 2) (fun _ _=>rfl))) ao)))) ao))))
   (aA (bH (i:=6) rfl dD.nd rfl (by first | exact .inl rfl | exact .inr rfl) (bN G__law_times (hc.room.mono (by decide)) rfl (aj (aa (aH (sn 3) (sn 2) (fun _ _=>rfl))) (aj (aa (bN G__law_lowest (hc.room.mono (by decide)) rfl (aj (aa (aH (sn 5) (aa (ak)) (fun _ _=>rfl))) (aj (aa (aH (sn 5) (aa (ak)) (fun _ _=>rfl))) ao)))) ao))))
   (aA (gZ (i:=7) (own:=["_law_u", "_law_v"]) (fr:=[6]) rfl dD.nd rfl (by first | exact .inl rfl | exact .inr rfl) hc.calm (Ae rfl n_zip (sv 3) (sv 4)) (CScope.of (by rfl)) (by decide) (fun _ _ _ _ _=>(iU hc.calm (bA (aM (i:=0) rfl (dh (by rfl)) rfl (by first | exact .inl rfl | exact .inr rfl)) (bA (aM (i:=1) rfl (dh (by rfl)) rfl (by first | exact .inl rfl | exact .inr rfl)) gk)) (goN [0,1]))) (fun _ _ _ _ _=>cM) (fun _ _ _ _ _=>(bN G__law_plus (hc.room.mono (by decide)) rfl (aj (sn 0) (aj (aa (bN G__law_times (hc.room.mono (by decide)) rfl (aj (sn 2) (aj (sn 1) ao)))) ao)))))
   (aQ (bO (aJ bu bI (aa (aJ bu bI (aa (pJ (sn 7) (sn 2))) (aa (@uL _ _ _ _ (tB rfl (Ad (dY rfl (aa (ak)) (dY rfl (aa (ak)) nG))) nG))))) (aa (jl (sn 7) (aa (aJ bu bI (sn 2) (aa (ak)))))))))))))
theorem lR:FnScope ["_law_script", "_law_at", "_law_bag_here", "_law_net_here", "_law_ends", "_law_handed", "_law_lost", "_law_due", "_law_turn", "_law_found"] ["_law_script"] (aL (top 55)):=⟨rfl,rfl,rfl,by decide +kernel,rfl,by decide +kernel,by decide +kernel⟩
theorem Vs {f:Addr} {fd:FuncData} (T:Fun K "law" "law" (top 55) f fd) (ht:P.given.tree=none) (n_len:mg "len" = none) (n_list:mg "list" = none) (n_max:mg "max" = none) (n_min:mg "min" = none) (n_range:mg "range" = none) (G__law_bag:Prm P w K mg base "_law_bag" 35 ["_law_script", "_law_at"] (bj K 2 false jW)) (G__law_net:Prm P w K mg base "_law_net" 37 ["_law_bag_here"] (bj K 1 true jd)) (G__law_lifted:Prm P w K mg base "_law_lifted" 37 ["_law_bag_here", "_law_net_here"] (bj K 2 true dJ)) (G__law_can_go:Prm P w K mg base "_law_can_go" 36 ["_law_net_here"] (bj K 1 false fZ)) (G__law_running_without:Prm P w K mg base "_law_running_without" 41 ["_law_net_here", "_law_ends", "_law_lost"] (bj K 3 false cA)) (G_behind_loss:Prm P w K mg base "behind_loss" 43 ["net", "puts", "line"] (bj K 3 false eZ)) (G__law_like:Prm P w K mg base "_law_like" 35 ["_law_found", "_law_due"] (bj K 2 false fM)) (G__law_by_shares:Prm P w K mg base "_law_by_shares" 44 ["_law_net_here", "_law_ends", "_law_lost"] (bj K 3 false di)) (G_streams:Prm P w K mg base "streams" 42 ["net", "puts"] (bj K 2 false dq)) (G__law_running:Prm P w K mg base "_law_running" 40 ["_law_net_here", "_law_ends"] (bj K 2 false cL)):FnOk P w K mg base CX0 45 f fd ["_law_script"] (bj K 1 false jH):=by
 refine T.sem lR ht ?_
 rintro _ cdv f A outer s H E rfl hc
 exact aA (fW PassesOwn.never hc.calm (dW rfl n_range (aj (aa (bT (yp hc.calm) BL rfl n_max JV (aj (aa (ak)) (aj (aa (bT (su hc.calm) vy rfl n_min DX (aj (aa (bT cY fY rfl n_len ju (aj (sn 0) ao))) (aj (aa (ak)) ao)))) ao)))) ao)) (aM (i:=1) rfl lR.nd rfl (by first | exact .inl rfl | exact .inr rfl))
   (Af [2,3,4,5] (aA (bH (i:=2) rfl lR.nd rfl (by first | exact .inl rfl | exact .inr rfl) (bN G__law_bag (hc.room.mono (by decide)) rfl (aj (sn 0) (aj (sn 1) ao))))
   (aA (bH (i:=3) rfl lR.nd rfl (by first | exact .inl rfl | exact .inr rfl) (fc G__law_net (hc.room.mono (by decide)) rfl (aj (sn 2) ao)))
   (aA (bH (i:=4) rfl lR.nd rfl (by first | exact .inl rfl | exact .inr rfl) (iT ik fP (aa (TF (fc G__law_lifted (hc.room.mono (by decide)) rfl (aj (sn 2) (aj (sn 3) ao))))) (aa (ak)) (fun _ _=>rfl)))
   (aA (bH (i:=5) rfl lR.nd rfl (by first | exact .inl rfl | exact .inr rfl) (jK mR ou rfl n_list qD (aj (sn 4) ao)))
   (aA (fW PassesOwn.never hc.calm (dZ (bN G__law_can_go (hc.room.mono (by decide)) rfl (aj (sn 3) ao))) (aM (i:=6) rfl lR.nd rfl (by first | exact .inl rfl | exact .inr rfl))
   (Af [7] (aA (bH (i:=7) rfl lR.nd rfl (by first | exact .inl rfl | exact .inr rfl) (bN G__law_running_without (hc.room.mono (by decide)) rfl (aj (sn 3) (aj (sn 4) (aj (sn 6) ao)))))
   (aA (fW PassesOwn.never hc.calm (dW rfl n_range (aj (aa (ak)) ao)) (aM (i:=8) rfl lR.nd rfl (by first | exact .inl rfl | exact .inr rfl))
   (Af [9] (aA (bH (i:=9) rfl lR.nd rfl (by first | exact .inl rfl | exact .inr rfl) (bN G_behind_loss (hc.room.mono (by decide)) rfl (aj (sn 3) (aj (sn 5) (aj (sn 6) ao)))))
   (aA (gR (SW.b (Dt (jY (jy (aa (bN G__law_like (hc.room.mono (by decide)) rfl (aj (sn 9) (aj (sn 7) ao)))))) (Ai (fV (oR hc.room.units) lu (sn 5) (sn 4) (dI _)))))
   (aQ (bO (xr)))
   (fj))
   (aA (jm (oZ (i:=9) PySem.F.slot_list_append PySem.F.type_list_append pH pA rfl (by first | exact .inl rfl | exact .inr (.inl rfl) | exact .inr (.inr rfl)) (aj (aa (fJ (aj (aa (ak)) (aj (aa (ak)) ao)))) ao)))
   (aQ (jm (RP (i:=9) PySem.F.slot_list_reverse PySem.F.type_list_reverse Fe Ef rfl (by first | exact .inl rfl | exact .inr (.inl rfl) | exact .inr (.inr rfl))))))))))
   (aQ (gR (fV (oR hc.room.units) lu (aa (bN G__law_by_shares (hc.room.mono (by decide)) rfl (aj (sn 3) (aj (sn 4) (aj (sn 6) ao))))) (sn 7) (dI _))
   (aQ (bO (xr)))
   (fj)))))))
   (aQ (gR (jY (jy (aa (bN G__law_like (hc.room.mono (by decide)) rfl (aj (aa (bN G_streams (hc.room.mono (by decide)) rfl (aj (sn 3) (aj (sn 5) ao)))) (aj (aa (bN G__law_running (hc.room.mono (by decide)) rfl (aj (sn 3) (aj (sn 4) ao)))) ao))))))
   (aQ (bO (xr)))
   (fj))))))))))
   (aQ (bO (xr)))
theorem PK {f:Addr} {fd:FuncData} (TL:Fun K "law" "law" (top 55) f fd) (ht:P.given.tree=none)
  (T_is_whole_number:Known K mg "is_whole_number" (top 8) ["thing"])
  (T_is_within:Known K mg "is_within" (top 9) ["thing", "low", "high"])
  (T_is_row:Known K mg "is_row" (top 10) ["thing", "least", "most"])
  (T_common_divisor:Known K mg "common_divisor" (top 12) ["one", "other"])
  (T_fraction:Known K mg "fraction" (top 13) ["top", "bottom"])
  (T_plus:Known K mg "plus" (top 14) ["u", "v"])
  (T_minus:Known K mg "minus" (top 15) ["u", "v"])
  (T_times:Known K mg "times" (top 16) ["u", "v"])
  (T_over:Known K mg "over" (top 17) ["u", "v"])
  (T_is_fraction:Known K mg "is_fraction" (top 18) ["thing"])
  (T_are_joined:Known K mg "are_joined" (top 20) ["many", "lines"])
  (T_lines_but:Known K mg "lines_but" (top 21) ["net", "line"])
  (T_can_be_lost:Known K mg "can_be_lost" (top 22) ["net", "line"])
  (T_without:Known K mg "without" (top 23) ["net", "line"])
  (T_leading_row:Known K mg "leading_row" (top 25) ["rows", "at"])
  (T_made_one:Known K mg "made_one" (top 26) ["row", "at"])
  (T_made_nought:Known K mg "made_nought" (top 27) ["row", "lead", "at"])
  (T_cleared:Known K mg "cleared" (top 28) ["rows", "at"])
  (T_solved:Known K mg "solved" (top 29) ["table", "right"])
  (T_check_puts:Known K mg "check_puts" (top 31) ["net", "puts"])
  (T_stiffness_table:Known K mg "stiffness_table" (top 32) ["net"])
  (T_heights:Known K mg "heights" (top 33) ["net", "puts"])
  (T_streams:Known K mg "streams" (top 34) ["net", "puts"])
  (T_shares:Known K mg "shares" (top 35) ["net", "one", "other"])
  (T_behind_loss:Known K mg "behind_loss" (top 36) ["net", "puts", "line"])
  (T__law_bag:Known K mg "_law_bag" (top 38) ["_law_script", "_law_at"])
  (T__law_take:Known K mg "_law_take" (top 39) ["_law_bag_here", "_law_many"])
  (T__law_far:Known K mg "_law_far" (top 40) ["_law_bag_here", "_law_sixes"])
  (T__law_common:Known K mg "_law_common" (top 41) ["_law_one", "_law_other"])
  (T__law_lowest:Known K mg "_law_lowest" (top 42) ["_law_top", "_law_bottom"])
  (T__law_plus:Known K mg "_law_plus" (top 43) ["_law_u", "_law_v"])
  (T__law_times:Known K mg "_law_times" (top 44) ["_law_u", "_law_v"])
  (T__law_line:Known K mg "_law_line" (top 45) ["_law_bag_here", "_law_one", "_law_other"])
  (T__law_net:Known K mg "_law_net" (top 46) ["_law_bag_here"])
  (T__law_joined:Known K mg "_law_joined" (top 47) ["_law_many", "_law_lines"])
  (T__law_size_number:Known K mg "_law_size_number" (top 48) ["_law_rows"])
  (T__law_running:Known K mg "_law_running" (top 49) ["_law_net_here", "_law_ends"])
  (T__law_running_without:Known K mg "_law_running_without" (top 50) ["_law_net_here", "_law_ends", "_law_lost"])
  (T__law_lifted:Known K mg "_law_lifted" (top 51) ["_law_bag_here", "_law_net_here"])
  (T__law_like:Known K mg "_law_like" (top 52) ["_law_found", "_law_due"])
  (T__law_can_go:Known K mg "_law_can_go" (top 53) ["_law_net_here"])
  (T__law_by_shares:Known K mg "_law_by_shares" (top 54) ["_law_net_here", "_law_ends", "_law_lost"])
  (n_abs:mg "abs" = none) (n_all:mg "all" = none) (n_any:mg "any" = none) (n_bool:mg "bool" = none) (n_enumerate:mg "enumerate" = none) (n_int:mg "int" = none) (n_isinstance:mg "isinstance" = none) (n_len:mg "len" = none) (n_list:mg "list" = none) (n_max:mg "max" = none) (n_min:mg "min" = none) (n_range:mg "range" = none) (n_set:mg "set" = none) (n_tuple:mg "tuple" = none) (n_zip:mg "zip" = none) (base:Heap):FnOk P w K mg base CX0 45 f fd ["_law_script"] (bj K 1 false jH):=by
 have G_is_whole_number:=qm (P:=P) (w:=w) (base:=base) T_is_whole_number ht n_bool n_int n_isinstance
 have G_is_within:=zN (P:=P) (w:=w) (base:=base) T_is_within ht G_is_whole_number
 have G_is_row:=Jl (P:=P) (w:=w) (base:=base) T_is_row ht n_isinstance n_len n_tuple
 have G_common_divisor:=qY (P:=P) (w:=w) (base:=base) T_common_divisor ht n_abs
 have G_fraction:=CT (P:=P) (w:=w) (base:=base) T_fraction ht G_common_divisor
 have G_plus:=Rb (P:=P) (w:=w) (base:=base) T_plus ht G_fraction
 have G_minus:=MN (P:=P) (w:=w) (base:=base) T_minus ht G_fraction
 have G_times:=MT (P:=P) (w:=w) (base:=base) T_times ht G_fraction
 have G_over:=Ra (P:=P) (w:=w) (base:=base) T_over ht G_fraction
 have G_is_fraction:=wI (P:=P) (w:=w) (base:=base) T_is_fraction ht G_is_row G_is_whole_number G_common_divisor
 have G_are_joined:=xY (P:=P) (w:=w) (base:=base) T_are_joined ht n_len n_list n_range n_set
 have G_lines_but:=zO (P:=P) (w:=w) (base:=base) T_lines_but ht
 have G_can_be_lost:=wH (P:=P) (w:=w) (base:=base) T_can_be_lost ht G_are_joined G_lines_but
 have G_without:=Fj (P:=P) (w:=w) (base:=base) T_without ht n_len G_is_within G_can_be_lost G_lines_but
 have G_leading_row:=wJ (P:=P) (w:=w) (base:=base) T_leading_row ht n_len n_range
 have G_made_one:=CV (P:=P) (w:=w) (base:=base) T_made_one ht G_over
 have G_made_nought:=wL (P:=P) (w:=w) (base:=base) T_made_nought ht n_zip G_minus G_times
 have G_cleared:=Ff (P:=P) (w:=w) (base:=base) T_cleared ht n_enumerate G_made_one G_made_nought
 have G_solved:=Jo (P:=P) (w:=w) (base:=base) T_solved ht n_len n_list n_range n_zip G_leading_row G_cleared
 have G_check_puts:=xZ (P:=P) (w:=w) (base:=base) T_check_puts ht n_isinstance n_len n_list G_is_fraction G_plus
 have G_stiffness_table:=qp (P:=P) (w:=w) (base:=base) T_stiffness_table ht n_range
 have G_heights:=Fg (P:=P) (w:=w) (base:=base) T_heights ht G_check_puts G_stiffness_table G_fraction G_solved
 have G_streams:=Fi (P:=P) (w:=w) (base:=base) T_streams ht G_heights G_times G_minus
 have G_shares:=Jm (P:=P) (w:=w) (base:=base) T_shares ht n_range G_plus G_minus G_streams
 have G_behind_loss:=wG (P:=P) (w:=w) (base:=base) T_behind_loss ht G_check_puts G_streams G_without
 have G__law_bag:=CN (P:=P) (w:=w) (base:=base) T__law_bag ht n_abs n_len n_min n_range
 have G__law_take:=zL (P:=P) (w:=w) (base:=base) T__law_take ht
 have G__law_far:=CP (P:=P) (w:=w) (base:=base) T__law_far ht n_range G__law_take
 have G__law_common:=wB (P:=P) (w:=w) (base:=base) T__law_common ht n_abs
 have G__law_lowest:=wF (P:=P) (w:=w) (base:=base) T__law_lowest ht G__law_common
 have G__law_plus:=zK (P:=P) (w:=w) (base:=base) T__law_plus ht G__law_lowest
 have G__law_times:=xX (P:=P) (w:=w) (base:=base) T__law_times ht G__law_lowest
 have G__law_line:=zJ (P:=P) (w:=w) (base:=base) T__law_line ht G__law_take
 have G__law_net:=CQ (P:=P) (w:=w) (base:=base) T__law_net ht n_int n_len n_range n_tuple G__law_take G__law_line
 have G__law_joined:=wC (P:=P) (w:=w) (base:=base) T__law_joined ht n_int n_list n_max n_min n_range
 have G__law_size_number:=jA (P:=P) (w:=w) (base:=base) T__law_size_number ht n_len n_range 4
 have G__law_running:=uq (P:=P) (w:=w) (base:=base) T__law_running ht n_range n_zip G__law_common G__law_size_number G__law_lowest
 have G__law_running_without:=lZ (P:=P) (w:=w) (base:=base) T__law_running_without ht G__law_running
 have G__law_lifted:=wD (P:=P) (w:=w) (base:=base) T__law_lifted ht n_range n_zip G__law_take G__law_far G__law_lowest
 have G__law_like:=zH (P:=P) (w:=w) (base:=base) T__law_like ht n_all n_any n_bool n_isinstance n_list n_tuple
 have G__law_can_go:=wA (P:=P) (w:=w) (base:=base) T__law_can_go ht n_len n_range G__law_joined
 have G__law_by_shares:=qX (P:=P) (w:=w) (base:=base) T__law_by_shares ht n_list n_zip G_streams G_shares G__law_plus G__law_times G__law_lowest
 exact Vs TL ht n_len n_list n_max n_min n_range G__law_bag G__law_net G__law_lifted G__law_can_go G__law_running_without G_behind_loss G__law_like G__law_by_shares G_streams G__law_running
end
theorem Vh {K:PySem.W.Frag} {mg:Str->Option Value} {h:Heap} {fa f:Addr} (X:K.In h) (G:h.Ns mainGlobals mg) (hfa:mg "law" = some (.ref fa)) {oc:Value} {od an:Option Addr} {osl:Array (Option Value)} {kV doc pm cdv ct:Value}
  (a:PySem.W.nsIn K mainGlobals "law" = some (some (.ref f))) (l:K.lookup f=some ⟨oc,od,.func (PySem.W.fnOf "law" "law" (jD (top 55)) (gF (top 55)) (aL (top 55)) .none kV doc pm an cdv ct),osl⟩)
  (c:PySem.W.codeIn K cdv "law" = true) (k:PySem.W.keepIn K (.ref f)=true):∃ fd:FuncData,L2.Fun K "law" "law" (top 55) fa fd ∧ ∀ (s:Shared) (u:Value),BindsTo s fd ⟨[u],[]⟩ [("_law_script",u)]:=by
 have e:=hfa.symm.trans (PySem.W.mg_of X G a)
 cases e
 exact ⟨_,Ej l c k,fun s v=>.of_eq rfl⟩
end K15
open PySem PySem.W PyProof.Rows
set_option maxRecDepth 100000 in
set_option maxHeartbeats 0 in
theorem PySem.Challenge.cw_mainskeep_k15_streams_behind_a_loss_holds : PySem.Challenge.rw_mainskeep_k15_streams_behind_a_loss.Holds := by
 w_on;refine PySem.W.holds_law K15.said fun said=>?_
 refine holds_open (q:=K15.q) (loose:=[]) (XP:=XL K15.q []) (YP:=Hook.says (PySem.W.kHook K15.heap K15.addrs K15.nW)) (d:=K15.vQ) (kwd:=[]) K15.left (Hook.of (PySem.W.kHook K15.heap K15.addrs K15.nW)) (Hook.keeps (PySem.W.kHook K15.heap K15.addrs K15.nW)) (fun s e=>xl_of s (Bool.and_eq_true_iff.mp e).1) XL.keeps K15.QK K15.QL rfl (fun s e=>recFacts_of (Bool.and_eq_true_iff.mp e).2) rfl (by first | assumption | decide +kernel) (by decide +kernel) ⟨rfl,rfl,rfl,rfl,rfl,by decide +kernel⟩ ?hw ?hc
 (case hw=>w_witness2)
 k_fill
 refine L2.Pq (l:=PySem.Challenge.rw_mainskeep_k15_streams_behind_a_loss) (k:=45) (x:= "_law_script") (sf:=Z.jH) rfl rfl (by decide +kernel) ⟨rfl,by decide,by decide⟩ (fun w h Y=>PySem.W.kIn_of Y) Z.ur ?F
 case F=>
  intro w mg fa h KX G hmg
  have T_is_whole_number:L2.Known (L2.KOf KX) mg "is_whole_number" (K15.top 8) ["thing"]:=by
   dsimp only [L2.KOf]
   refine' L2.bc KX G ?a ?l ?c ?k fun _ _ _ _ _ _ us hl=>match us,hl with | [_],_=>rfl
   (case a=>k_is);(case l=>k_is);(case c=>k_is);(case k=>k_is)
  have T_is_within:L2.Known (L2.KOf KX) mg "is_within" (K15.top 9) ["thing", "low", "high"]:=by
   dsimp only [L2.KOf]
   refine' L2.bc KX G ?a ?l ?c ?k fun _ _ _ _ _ _ us hl=>match us,hl with | [_,_,_],_=>rfl
   (case a=>k_is);(case l=>k_is);(case c=>k_is);(case k=>k_is)
  have T_is_row:L2.Known (L2.KOf KX) mg "is_row" (K15.top 10) ["thing", "least", "most"]:=by
   dsimp only [L2.KOf]
   refine' L2.bc KX G ?a ?l ?c ?k fun _ _ _ _ _ _ us hl=>match us,hl with | [_,_,_],_=>rfl
   (case a=>k_is);(case l=>k_is);(case c=>k_is);(case k=>k_is)
  have T_common_divisor:L2.Known (L2.KOf KX) mg "common_divisor" (K15.top 12) ["one", "other"]:=by
   dsimp only [L2.KOf]
   refine' L2.bc KX G ?a ?l ?c ?k fun _ _ _ _ _ _ us hl=>match us,hl with | [_,_],_=>rfl
   (case a=>k_is);(case l=>k_is);(case c=>k_is);(case k=>k_is)
  have T_fraction:L2.Known (L2.KOf KX) mg "fraction" (K15.top 13) ["top", "bottom"]:=by
   dsimp only [L2.KOf]
   refine' L2.bc KX G ?a ?l ?c ?k fun _ _ _ _ _ _ us hl=>match us,hl with | [_,_],_=>rfl
   (case a=>k_is);(case l=>k_is);(case c=>k_is);(case k=>k_is)
  have T_plus:L2.Known (L2.KOf KX) mg "plus" (K15.top 14) ["u", "v"]:=by
   dsimp only [L2.KOf]
   refine' L2.bc KX G ?a ?l ?c ?k fun _ _ _ _ _ _ us hl=>match us,hl with | [_,_],_=>rfl
   (case a=>k_is);(case l=>k_is);(case c=>k_is);(case k=>k_is)
  have T_minus:L2.Known (L2.KOf KX) mg "minus" (K15.top 15) ["u", "v"]:=by
   dsimp only [L2.KOf]
   refine' L2.bc KX G ?a ?l ?c ?k fun _ _ _ _ _ _ us hl=>match us,hl with | [_,_],_=>rfl
   (case a=>k_is);(case l=>k_is);(case c=>k_is);(case k=>k_is)
  have T_times:L2.Known (L2.KOf KX) mg "times" (K15.top 16) ["u", "v"]:=by
   dsimp only [L2.KOf]
   refine' L2.bc KX G ?a ?l ?c ?k fun _ _ _ _ _ _ us hl=>match us,hl with | [_,_],_=>rfl
   (case a=>k_is);(case l=>k_is);(case c=>k_is);(case k=>k_is)
  have T_over:L2.Known (L2.KOf KX) mg "over" (K15.top 17) ["u", "v"]:=by
   dsimp only [L2.KOf]
   refine' L2.bc KX G ?a ?l ?c ?k fun _ _ _ _ _ _ us hl=>match us,hl with | [_,_],_=>rfl
   (case a=>k_is);(case l=>k_is);(case c=>k_is);(case k=>k_is)
  have T_is_fraction:L2.Known (L2.KOf KX) mg "is_fraction" (K15.top 18) ["thing"]:=by
   dsimp only [L2.KOf]
   refine' L2.bc KX G ?a ?l ?c ?k fun _ _ _ _ _ _ us hl=>match us,hl with | [_],_=>rfl
   (case a=>k_is);(case l=>k_is);(case c=>k_is);(case k=>k_is)
  have T_are_joined:L2.Known (L2.KOf KX) mg "are_joined" (K15.top 20) ["many", "lines"]:=by
   dsimp only [L2.KOf]
   refine' L2.bc KX G ?a ?l ?c ?k fun _ _ _ _ _ _ us hl=>match us,hl with | [_,_],_=>rfl
   (case a=>k_is);(case l=>k_is);(case c=>k_is);(case k=>k_is)
  have T_lines_but:L2.Known (L2.KOf KX) mg "lines_but" (K15.top 21) ["net", "line"]:=by
   dsimp only [L2.KOf]
   refine' L2.bc KX G ?a ?l ?c ?k fun _ _ _ _ _ _ us hl=>match us,hl with | [_,_],_=>rfl
   (case a=>k_is);(case l=>k_is);(case c=>k_is);(case k=>k_is)
  have T_can_be_lost:L2.Known (L2.KOf KX) mg "can_be_lost" (K15.top 22) ["net", "line"]:=by
   dsimp only [L2.KOf]
   refine' L2.bc KX G ?a ?l ?c ?k fun _ _ _ _ _ _ us hl=>match us,hl with | [_,_],_=>rfl
   (case a=>k_is);(case l=>k_is);(case c=>k_is);(case k=>k_is)
  have T_without:L2.Known (L2.KOf KX) mg "without" (K15.top 23) ["net", "line"]:=by
   dsimp only [L2.KOf]
   refine' L2.bc KX G ?a ?l ?c ?k fun _ _ _ _ _ _ us hl=>match us,hl with | [_,_],_=>rfl
   (case a=>k_is);(case l=>k_is);(case c=>k_is);(case k=>k_is)
  have T_leading_row:L2.Known (L2.KOf KX) mg "leading_row" (K15.top 25) ["rows", "at"]:=by
   dsimp only [L2.KOf]
   refine' L2.bc KX G ?a ?l ?c ?k fun _ _ _ _ _ _ us hl=>match us,hl with | [_,_],_=>rfl
   (case a=>k_is);(case l=>k_is);(case c=>k_is);(case k=>k_is)
  have T_made_one:L2.Known (L2.KOf KX) mg "made_one" (K15.top 26) ["row", "at"]:=by
   dsimp only [L2.KOf]
   refine' L2.bc KX G ?a ?l ?c ?k fun _ _ _ _ _ _ us hl=>match us,hl with | [_,_],_=>rfl
   (case a=>k_is);(case l=>k_is);(case c=>k_is);(case k=>k_is)
  have T_made_nought:L2.Known (L2.KOf KX) mg "made_nought" (K15.top 27) ["row", "lead", "at"]:=by
   dsimp only [L2.KOf]
   refine' L2.bc KX G ?a ?l ?c ?k fun _ _ _ _ _ _ us hl=>match us,hl with | [_,_,_],_=>rfl
   (case a=>k_is);(case l=>k_is);(case c=>k_is);(case k=>k_is)
  have T_cleared:L2.Known (L2.KOf KX) mg "cleared" (K15.top 28) ["rows", "at"]:=by
   dsimp only [L2.KOf]
   refine' L2.bc KX G ?a ?l ?c ?k fun _ _ _ _ _ _ us hl=>match us,hl with | [_,_],_=>rfl
   (case a=>k_is);(case l=>k_is);(case c=>k_is);(case k=>k_is)
  have T_solved:L2.Known (L2.KOf KX) mg "solved" (K15.top 29) ["table", "right"]:=by
   dsimp only [L2.KOf]
   refine' L2.bc KX G ?a ?l ?c ?k fun _ _ _ _ _ _ us hl=>match us,hl with | [_,_],_=>rfl
   (case a=>k_is);(case l=>k_is);(case c=>k_is);(case k=>k_is)
  have T_check_puts:L2.Known (L2.KOf KX) mg "check_puts" (K15.top 31) ["net", "puts"]:=by
   dsimp only [L2.KOf]
   refine' L2.bc KX G ?a ?l ?c ?k fun _ _ _ _ _ _ us hl=>match us,hl with | [_,_],_=>rfl
   (case a=>k_is);(case l=>k_is);(case c=>k_is);(case k=>k_is)
  have T_stiffness_table:L2.Known (L2.KOf KX) mg "stiffness_table" (K15.top 32) ["net"]:=by
   dsimp only [L2.KOf]
   refine' L2.bc KX G ?a ?l ?c ?k fun _ _ _ _ _ _ us hl=>match us,hl with | [_],_=>rfl
   (case a=>k_is);(case l=>k_is);(case c=>k_is);(case k=>k_is)
  have T_heights:L2.Known (L2.KOf KX) mg "heights" (K15.top 33) ["net", "puts"]:=by
   dsimp only [L2.KOf]
   refine' L2.bc KX G ?a ?l ?c ?k fun _ _ _ _ _ _ us hl=>match us,hl with | [_,_],_=>rfl
   (case a=>k_is);(case l=>k_is);(case c=>k_is);(case k=>k_is)
  have T_streams:L2.Known (L2.KOf KX) mg "streams" (K15.top 34) ["net", "puts"]:=by
   dsimp only [L2.KOf]
   refine' L2.bc KX G ?a ?l ?c ?k fun _ _ _ _ _ _ us hl=>match us,hl with | [_,_],_=>rfl
   (case a=>k_is);(case l=>k_is);(case c=>k_is);(case k=>k_is)
  have T_shares:L2.Known (L2.KOf KX) mg "shares" (K15.top 35) ["net", "one", "other"]:=by
   dsimp only [L2.KOf]
   refine' L2.bc KX G ?a ?l ?c ?k fun _ _ _ _ _ _ us hl=>match us,hl with | [_,_,_],_=>rfl
   (case a=>k_is);(case l=>k_is);(case c=>k_is);(case k=>k_is)
  have T_behind_loss:L2.Known (L2.KOf KX) mg "behind_loss" (K15.top 36) ["net", "puts", "line"]:=by
   dsimp only [L2.KOf]
   refine' L2.bc KX G ?a ?l ?c ?k fun _ _ _ _ _ _ us hl=>match us,hl with | [_,_,_],_=>rfl
   (case a=>k_is);(case l=>k_is);(case c=>k_is);(case k=>k_is)
  have T__law_bag:L2.Known (L2.KOf KX) mg "_law_bag" (K15.top 38) ["_law_script", "_law_at"]:=by
   dsimp only [L2.KOf]
   refine' L2.bc KX G ?a ?l ?c ?k fun _ _ _ _ _ _ us hl=>match us,hl with | [_,_],_=>rfl
   (case a=>k_is);(case l=>k_is);(case c=>k_is);(case k=>k_is)
  have T__law_take:L2.Known (L2.KOf KX) mg "_law_take" (K15.top 39) ["_law_bag_here", "_law_many"]:=by
   dsimp only [L2.KOf]
   refine' L2.bc KX G ?a ?l ?c ?k fun _ _ _ _ _ _ us hl=>match us,hl with | [_,_],_=>rfl
   (case a=>k_is);(case l=>k_is);(case c=>k_is);(case k=>k_is)
  have T__law_far:L2.Known (L2.KOf KX) mg "_law_far" (K15.top 40) ["_law_bag_here", "_law_sixes"]:=by
   dsimp only [L2.KOf]
   refine' L2.bc KX G ?a ?l ?c ?k fun _ _ _ _ _ _ us hl=>match us,hl with | [_,_],_=>rfl
   (case a=>k_is);(case l=>k_is);(case c=>k_is);(case k=>k_is)
  have T__law_common:L2.Known (L2.KOf KX) mg "_law_common" (K15.top 41) ["_law_one", "_law_other"]:=by
   dsimp only [L2.KOf]
   refine' L2.bc KX G ?a ?l ?c ?k fun _ _ _ _ _ _ us hl=>match us,hl with | [_,_],_=>rfl
   (case a=>k_is);(case l=>k_is);(case c=>k_is);(case k=>k_is)
  have T__law_lowest:L2.Known (L2.KOf KX) mg "_law_lowest" (K15.top 42) ["_law_top", "_law_bottom"]:=by
   dsimp only [L2.KOf]
   refine' L2.bc KX G ?a ?l ?c ?k fun _ _ _ _ _ _ us hl=>match us,hl with | [_,_],_=>rfl
   (case a=>k_is);(case l=>k_is);(case c=>k_is);(case k=>k_is)
  have T__law_plus:L2.Known (L2.KOf KX) mg "_law_plus" (K15.top 43) ["_law_u", "_law_v"]:=by
   dsimp only [L2.KOf]
   refine' L2.bc KX G ?a ?l ?c ?k fun _ _ _ _ _ _ us hl=>match us,hl with | [_,_],_=>rfl
   (case a=>k_is);(case l=>k_is);(case c=>k_is);(case k=>k_is)
  have T__law_times:L2.Known (L2.KOf KX) mg "_law_times" (K15.top 44) ["_law_u", "_law_v"]:=by
   dsimp only [L2.KOf]
   refine' L2.bc KX G ?a ?l ?c ?k fun _ _ _ _ _ _ us hl=>match us,hl with | [_,_],_=>rfl
   (case a=>k_is);(case l=>k_is);(case c=>k_is);(case k=>k_is)
  have T__law_line:L2.Known (L2.KOf KX) mg "_law_line" (K15.top 45) ["_law_bag_here", "_law_one", "_law_other"]:=by
   dsimp only [L2.KOf]
   refine' L2.bc KX G ?a ?l ?c ?k fun _ _ _ _ _ _ us hl=>match us,hl with | [_,_,_],_=>rfl
   (case a=>k_is);(case l=>k_is);(case c=>k_is);(case k=>k_is)
  have T__law_net:L2.Known (L2.KOf KX) mg "_law_net" (K15.top 46) ["_law_bag_here"]:=by
   dsimp only [L2.KOf]
   refine' L2.bc KX G ?a ?l ?c ?k fun _ _ _ _ _ _ us hl=>match us,hl with | [_],_=>rfl
   (case a=>k_is);(case l=>k_is);(case c=>k_is);(case k=>k_is)
  have T__law_joined:L2.Known (L2.KOf KX) mg "_law_joined" (K15.top 47) ["_law_many", "_law_lines"]:=by
   dsimp only [L2.KOf]
   refine' L2.bc KX G ?a ?l ?c ?k fun _ _ _ _ _ _ us hl=>match us,hl with | [_,_],_=>rfl
   (case a=>k_is);(case l=>k_is);(case c=>k_is);(case k=>k_is)
  have T__law_size_number:L2.Known (L2.KOf KX) mg "_law_size_number" (K15.top 48) ["_law_rows"]:=by
   dsimp only [L2.KOf]
   refine' L2.bc KX G ?a ?l ?c ?k fun _ _ _ _ _ _ us hl=>match us,hl with | [_],_=>rfl
   (case a=>k_is);(case l=>k_is);(case c=>k_is);(case k=>k_is)
  have T__law_running:L2.Known (L2.KOf KX) mg "_law_running" (K15.top 49) ["_law_net_here", "_law_ends"]:=by
   dsimp only [L2.KOf]
   refine' L2.bc KX G ?a ?l ?c ?k fun _ _ _ _ _ _ us hl=>match us,hl with | [_,_],_=>rfl
   (case a=>k_is);(case l=>k_is);(case c=>k_is);(case k=>k_is)
  have T__law_running_without:L2.Known (L2.KOf KX) mg "_law_running_without" (K15.top 50) ["_law_net_here", "_law_ends", "_law_lost"]:=by
   dsimp only [L2.KOf]
   refine' L2.bc KX G ?a ?l ?c ?k fun _ _ _ _ _ _ us hl=>match us,hl with | [_,_,_],_=>rfl
   (case a=>k_is);(case l=>k_is);(case c=>k_is);(case k=>k_is)
  have T__law_lifted:L2.Known (L2.KOf KX) mg "_law_lifted" (K15.top 51) ["_law_bag_here", "_law_net_here"]:=by
   dsimp only [L2.KOf]
   refine' L2.bc KX G ?a ?l ?c ?k fun _ _ _ _ _ _ us hl=>match us,hl with | [_,_],_=>rfl
   (case a=>k_is);(case l=>k_is);(case c=>k_is);(case k=>k_is)
  have T__law_like:L2.Known (L2.KOf KX) mg "_law_like" (K15.top 52) ["_law_found", "_law_due"]:=by
   dsimp only [L2.KOf]
   refine' L2.bc KX G ?a ?l ?c ?k fun _ _ _ _ _ _ us hl=>match us,hl with | [_,_],_=>rfl
   (case a=>k_is);(case l=>k_is);(case c=>k_is);(case k=>k_is)
  have T__law_can_go:L2.Known (L2.KOf KX) mg "_law_can_go" (K15.top 53) ["_law_net_here"]:=by
   dsimp only [L2.KOf]
   refine' L2.bc KX G ?a ?l ?c ?k fun _ _ _ _ _ _ us hl=>match us,hl with | [_],_=>rfl
   (case a=>k_is);(case l=>k_is);(case c=>k_is);(case k=>k_is)
  have T__law_by_shares:L2.Known (L2.KOf KX) mg "_law_by_shares" (K15.top 54) ["_law_net_here", "_law_ends", "_law_lost"]:=by
   dsimp only [L2.KOf]
   refine' L2.bc KX G ?a ?l ?c ?k fun _ _ _ _ _ _ us hl=>match us,hl with | [_,_,_],_=>rfl
   (case a=>k_is);(case l=>k_is);(case c=>k_is);(case k=>k_is)
  have n_abs:mg "abs" = none:=by
   refine' PySem.W.mg_none_of KX G ?z
   (case z=>k_is)
  have n_all:mg "all" = none:=by
   refine' PySem.W.mg_none_of KX G ?z
   (case z=>k_is)
  have n_any:mg "any" = none:=by
   refine' PySem.W.mg_none_of KX G ?z
   (case z=>k_is)
  have n_bool:mg "bool" = none:=by
   refine' PySem.W.mg_none_of KX G ?z
   (case z=>k_is)
  have n_enumerate:mg "enumerate" = none:=by
   refine' PySem.W.mg_none_of KX G ?z
   (case z=>k_is)
  have n_int:mg "int" = none:=by
   refine' PySem.W.mg_none_of KX G ?z
   (case z=>k_is)
  have n_isinstance:mg "isinstance" = none:=by
   refine' PySem.W.mg_none_of KX G ?z
   (case z=>k_is)
  have n_len:mg "len" = none:=by
   refine' PySem.W.mg_none_of KX G ?z
   (case z=>k_is)
  have n_list:mg "list" = none:=by
   refine' PySem.W.mg_none_of KX G ?z
   (case z=>k_is)
  have n_max:mg "max" = none:=by
   refine' PySem.W.mg_none_of KX G ?z
   (case z=>k_is)
  have n_min:mg "min" = none:=by
   refine' PySem.W.mg_none_of KX G ?z
   (case z=>k_is)
  have n_range:mg "range" = none:=by
   refine' PySem.W.mg_none_of KX G ?z
   (case z=>k_is)
  have n_set:mg "set" = none:=by
   refine' PySem.W.mg_none_of KX G ?z
   (case z=>k_is)
  have n_tuple:mg "tuple" = none:=by
   refine' PySem.W.mg_none_of KX G ?z
   (case z=>k_is)
  have n_zip:mg "zip" = none:=by
   refine' PySem.W.mg_none_of KX G ?z
   (case z=>k_is)
  have TL:∃ fd:FuncData,L2.Fun (L2.KOf KX) "law" "law" (K15.top 55) fa fd ∧ ∀ (s:Shared) (u:Value),PySem.BindsTo s fd ⟨[u],[]⟩ [("_law_script",u)]:=by
   dsimp only [L2.KOf]
   refine' K15.Vh KX G hmg ?a ?l ?c ?k
   (case a=>k_is);(case l=>k_is);(case c=>k_is);(case k=>k_is)
  obtain ⟨fd,FL,bL⟩:=TL
  exact ⟨fd,bL,fun base _ _=>K15.PK FL rfl T_is_whole_number T_is_within T_is_row T_common_divisor T_fraction T_plus T_minus T_times T_over T_is_fraction T_are_joined T_lines_but T_can_be_lost T_without T_leading_row T_made_one T_made_nought T_cleared T_solved T_check_puts T_stiffness_table T_heights T_streams T_shares T_behind_loss T__law_bag T__law_take T__law_far T__law_common T__law_lowest T__law_plus T__law_times T__law_line T__law_net T__law_joined T__law_size_number T__law_running T__law_running_without T__law_lifted T__law_like T__law_can_go T__law_by_shares n_abs n_all n_any n_bool n_enumerate n_int n_isinstance n_len n_list n_max n_min n_range n_set n_tuple n_zip base⟩
