import PyProof.Rows.All
import Wide.All
import OpenK.AllK
import Wide.FinOn
import Lean
import PyProof.EqAt
import PyProof.EqKinds
import PyProof.TupleCall
import PyProof.ListRange
import PyProof.Rows.SetFrom
import PyProof.WalkInts
import PyProof.Draws
import PySem.Challenge.RW_mainskeep_k40_houses_of_any_thing
set_option Elab.async false
set_option linter.all false
set_option maxRecDepth 100000
set_option maxHeartbeats 8000000
namespace L2
open PySem
def iQ (s:Stmt):Arguments:=match s with
 | .FunctionDef _ a _ _ _ _ _ _ _ _=>a
 | _=>{ posonlyargs:=[],args:=[],vararg:=none,kwonlyargs:=[],kw_defaults:=[],kwarg:=none,defaults:=[] }
def fL (s:Stmt):List Stmt:=match s with
 | .FunctionDef _ _ b _ _ _ _ _ _ _=>b
 | _=>[]
def aC (s:Stmt):Scope:=match s with
 | .FunctionDef _ _ _ _ _ _ sc _ _ _=>sc
 | _=>{ kind:=.function,names:=[],isGenerator:=false,isCoroutine:=false }
end L2
namespace K40
open PySem L2
def top (i:Nat):Stmt:=PySem.Challenge.pw_mainskeep_k40_houses_of_any_thing.main.body.getD i (.Pass ⟨0,0,0,0⟩)
abbrev kE (P:Params) (x:Str) (t:Nat) (v:Value):DictEntry:=⟨PyData.keyHash P x,.str x t,v⟩
abbrev kF (x:Str) (st:Stmt) (doc pm:Value) (an:Option Addr) (cd ct:Value):FuncData:=PySem.W.fnOf x x (iQ st) (fL st) (aC st) .none .none doc pm an cd ct
abbrev kC (n q:String) (a b c l x y z:Nat) (r:Addr) (f:Nat) (r2:Addr) (u v w:Value) (t l2 e:Nat):Obj:=⟨.type "code",none,.fields [.str n a,.str q b,.str "/claim/cut.py" c,.int l 0,.int x 0,.int 0 0,.int 0 0,.int y 0,.ref r,.bool true,.int f 0,.ref r2,u,v,w,.ref z,.int t 0,.int l2 0,.str "/claim/cut.py" e].toArray,#[]⟩
abbrev kG (n:String) (i:Nat) (m:Value) (c:Addr):Obj:=⟨.type "function",none,.func (kF n (top i) .none m none (.ref c) .none),#[]⟩
def Kz (s:Stmt):Pos:=match s with
 | .FunctionDef _ _ _ _ _ _ _ _ _ p=>p
 | _=>⟨0,0,0,0⟩
def heap:Params->PySem.W.Frag:=fun P=>
 (nat_lit 2,⟨.none,none,.dict [].toArray 0,#[]⟩) ::
 (nat_lit 3,⟨.type "dict",none,.dict [kE P "__name__" 165 (.str "law_mainskeep_k40_houses_of_any_thing" 307),kE P "__doc__" 166 (.none),kE P "__package__" 167 (.none),kE P "__loader__" 168 (.builtin "__main__.__loader__#opaque"),kE P "__spec__" 169 (.none),kE P "__annotations__" 170 (.ref 6),kE P "__builtins__" 171 (.ref 4),kE P "__file__" 173 (.str "/claim/cut.py" 172),kE P "__cached__" 174 (.none),kE P "is_whole_number" 195 (.ref 21),kE P "is_within" 204 (.ref 28),kE P "is_row" 213 (.ref 35),kE P "is_line" 227 (.ref 42),kE P "are_joined" 233 (.ref 47),kE P "is_net" 239 (.ref 52),kE P "is_piece" 248 (.ref 59),kE P "are_pieces" 254 (.ref 64),kE P "is_work" 270 (.ref 71),kE P "is_store" 283 (.ref 78),kE P "is_want" 294 (.ref 85),kE P "are_wants" 300 (.ref 90),kE P "is_house" 306 (.ref 95),kE P "_law_bag" 319 (.ref 102),kE P "_law_take" 328 (.ref 109),kE P "_law_line" 340 (.ref 116),kE P "_law_net" 354 (.ref 123),kE P "_law_work" 369 (.ref 130),kE P "_law_store" 379 (.ref 137),kE P "_law_wants" 390 (.ref 144),kE P "_law_house" 396 (.ref 149),kE P "_law_from" 405 (.ref 156),kE P "_law_row" 414 (.ref 163),kE P "_law_is_line" 420 (.ref 168),kE P "_law_is_net" 426 (.ref 173),kE P "_law_is_piece" 433 (.ref 180),kE P "_law_is_work" 439 (.ref 185),kE P "_law_is_store" 447 (.ref 192),kE P "_law_is_want" 455 (.ref 199),kE P "_law_is_house" 461 (.ref 204),kE P "_law_odd" 471 (.ref 211),kE P "_law_spoilt" 480 (.ref 218),kE P "law" 495 (.ref 225)].toArray 42,#[]⟩) ::
 (nat_lit 20,kC "is_whole_number" "is_whole_number" 189 190 191 2 1 3 19 15 181 16 .none (.ref 17) (.ref 18) 193 2 194) ::
 (nat_lit 21,kG "is_whole_number" 1 (.str "mainskeep.kinds" 187) 20) ::
 (nat_lit 27,kC "is_within" "is_within" 196 197 198 4 3 3 26 22 181 23 .none (.ref 24) (.ref 25) 202 4 203) ::
 (nat_lit 28,kG "is_within" 2 (.str "mainskeep.kinds" 187) 27) ::
 (nat_lit 34,kC "is_row" "is_row" 205 206 207 6 3 3 33 29 181 30 .none (.ref 31) (.ref 32) 211 6 212) ::
 (nat_lit 35,kG "is_row" 3 (.str "mainskeep.kinds" 187) 34) ::
 (nat_lit 41,kC "is_line" "is_line" 216 217 218 9 2 3 40 36 181 37 .none (.ref 38) (.ref 39) 225 9 226) ::
 (nat_lit 42,kG "is_line" 5 (.str "mainskeep.nets" 214) 41) ::
 (nat_lit 46,kC "are_joined" "are_joined" 228 229 230 16 2 3 45 43 181 44 .none .none .none 231 16 232) ::
 (nat_lit 47,kG "are_joined" 6 (.str "mainskeep.nets" 214) 46) ::
 (nat_lit 51,kC "is_net" "is_net" 234 235 236 22 1 3 50 48 181 49 .none .none .none 237 22 238) ::
 (nat_lit 52,kG "is_net" 7 (.str "mainskeep.nets" 214) 51) ::
 (nat_lit 58,kC "is_piece" "is_piece" 242 243 244 30 1 3 57 53 181 54 .none (.ref 55) (.ref 56) 246 30 247) ::
 (nat_lit 59,kG "is_piece" 9 (.str "mainskeep.houses" 240) 58) ::
 (nat_lit 63,kC "are_pieces" "are_pieces" 249 250 251 32 1 3 62 60 181 61 .none .none .none 252 32 253) ::
 (nat_lit 64,kG "are_pieces" 10 (.str "mainskeep.houses" 240) 63) ::
 (nat_lit 70,kC "is_work" "is_work" 255 256 257 36 2 3 69 65 181 66 .none (.ref 67) (.ref 68) 268 36 269) ::
 (nat_lit 71,kG "is_work" 11 (.str "mainskeep.houses" 240) 70) ::
 (nat_lit 77,kC "is_store" "is_store" 271 272 273 45 2 3 76 72 181 73 .none (.ref 74) (.ref 75) 281 45 282) ::
 (nat_lit 78,kG "is_store" 12 (.str "mainskeep.houses" 240) 77) ::
 (nat_lit 84,kC "is_want" "is_want" 284 285 286 54 2 3 83 79 181 80 .none (.ref 81) (.ref 82) 292 54 293) ::
 (nat_lit 85,kG "is_want" 13 (.str "mainskeep.houses" 240) 84) ::
 (nat_lit 89,kC "are_wants" "are_wants" 295 296 297 59 2 3 88 86 181 87 .none .none .none 298 59 299) ::
 (nat_lit 90,kG "are_wants" 14 (.str "mainskeep.houses" 240) 89) ::
 (nat_lit 94,kC "is_house" "is_house" 301 302 303 61 1 3 93 91 181 92 .none .none .none 304 61 305) ::
 (nat_lit 95,kG "is_house" 15 (.str "mainskeep.houses" 240) 94) ::
 (nat_lit 101,kC "_law_bag" "_law_bag" 309 310 311 72 2 3 100 96 181 97 .none (.ref 98) (.ref 99) 317 72 318) ::
 (nat_lit 102,kG "_law_bag" 17 (.str "law_mainskeep_k40_houses_of_any_thing" 307) 101) ::
 (nat_lit 108,kC "_law_take" "_law_take" 320 321 322 82 2 3 107 103 181 104 .none (.ref 105) (.ref 106) 326 82 327) ::
 (nat_lit 109,kG "_law_take" 18 (.str "law_mainskeep_k40_houses_of_any_thing" 307) 108) ::
 (nat_lit 115,kC "_law_line" "_law_line" 329 330 331 89 3 3 114 110 181 111 .none (.ref 112) (.ref 113) 338 89 339) ::
 (nat_lit 116,kG "_law_line" 19 (.str "law_mainskeep_k40_houses_of_any_thing" 307) 115) ::
 (nat_lit 122,kC "_law_net" "_law_net" 341 342 343 94 1 3 121 117 181 118 .none (.ref 119) (.ref 120) 352 94 353) ::
 (nat_lit 123,kG "_law_net" 20 (.str "law_mainskeep_k40_houses_of_any_thing" 307) 122) ::
 (nat_lit 129,kC "_law_work" "_law_work" 355 356 357 108 2 3 128 124 181 125 .none (.ref 126) (.ref 127) 367 108 368) ::
 (nat_lit 130,kG "_law_work" 21 (.str "law_mainskeep_k40_houses_of_any_thing" 307) 129) ::
 (nat_lit 136,kC "_law_store" "_law_store" 370 371 372 119 2 3 135 131 181 132 .none (.ref 133) (.ref 134) 377 119 378) ::
 (nat_lit 137,kG "_law_store" 22 (.str "law_mainskeep_k40_houses_of_any_thing" 307) 136) ::
 (nat_lit 143,kC "_law_wants" "_law_wants" 380 381 382 125 2 3 142 138 181 139 .none (.ref 140) (.ref 141) 388 125 389) ::
 (nat_lit 144,kG "_law_wants" 23 (.str "law_mainskeep_k40_houses_of_any_thing" 307) 143) ::
 (nat_lit 148,kC "_law_house" "_law_house" 391 392 393 133 3 3 147 145 181 146 .none .none .none 394 133 395) ::
 (nat_lit 149,kG "_law_house" 24 (.str "law_mainskeep_k40_houses_of_any_thing" 307) 148) ::
 (nat_lit 155,kC "_law_from" "_law_from" 397 398 399 139 3 3 154 150 181 151 .none (.ref 152) (.ref 153) 403 139 404) ::
 (nat_lit 156,kG "_law_from" 25 (.str "law_mainskeep_k40_houses_of_any_thing" 307) 155) ::
 (nat_lit 162,kC "_law_row" "_law_row" 406 407 408 141 3 3 161 157 181 158 .none (.ref 159) (.ref 160) 412 141 413) ::
 (nat_lit 163,kG "_law_row" 26 (.str "law_mainskeep_k40_houses_of_any_thing" 307) 162) ::
 (nat_lit 167,kC "_law_is_line" "_law_is_line" 415 416 417 143 2 3 166 164 181 165 .none .none .none 418 143 419) ::
 (nat_lit 168,kG "_law_is_line" 27 (.str "law_mainskeep_k40_houses_of_any_thing" 307) 167) ::
 (nat_lit 172,kC "_law_is_net" "_law_is_net" 421 422 423 147 1 3 171 169 181 170 .none .none .none 424 147 425) ::
 (nat_lit 173,kG "_law_is_net" 28 (.str "law_mainskeep_k40_houses_of_any_thing" 307) 172) ::
 (nat_lit 179,kC "_law_is_piece" "_law_is_piece" 427 428 429 159 1 3 178 174 181 175 .none (.ref 176) (.ref 177) 431 159 432) ::
 (nat_lit 180,kG "_law_is_piece" 29 (.str "law_mainskeep_k40_houses_of_any_thing" 307) 179) ::
 (nat_lit 184,kC "_law_is_work" "_law_is_work" 434 435 436 161 2 3 183 181 181 182 .none .none .none 437 161 438) ::
 (nat_lit 185,kG "_law_is_work" 30 (.str "law_mainskeep_k40_houses_of_any_thing" 307) 184) ::
 (nat_lit 191,kC "_law_is_store" "_law_is_store" 440 441 442 169 2 3 190 186 181 187 .none (.ref 188) (.ref 189) 445 169 446) ::
 (nat_lit 192,kG "_law_is_store" 31 (.str "law_mainskeep_k40_houses_of_any_thing" 307) 191) ::
 (nat_lit 198,kC "_law_is_want" "_law_is_want" 448 449 450 175 2 3 197 193 181 194 .none (.ref 195) (.ref 196) 453 175 454) ::
 (nat_lit 199,kG "_law_is_want" 32 (.str "law_mainskeep_k40_houses_of_any_thing" 307) 198) ::
 (nat_lit 203,kC "_law_is_house" "_law_is_house" 456 457 458 179 1 3 202 200 181 201 .none .none .none 459 179 460) ::
 (nat_lit 204,kG "_law_is_house" 33 (.str "law_mainskeep_k40_houses_of_any_thing" 307) 203) ::
 (nat_lit 210,kC "_law_odd" "_law_odd" 462 463 464 191 2 3 209 205 181 206 .none (.ref 207) (.ref 208) 469 191 470) ::
 (nat_lit 211,kG "_law_odd" 34 (.str "law_mainskeep_k40_houses_of_any_thing" 307) 210) ::
 (nat_lit 217,kC "_law_spoilt" "_law_spoilt" 472 473 474 200 2 3 216 212 181 213 .none (.ref 214) (.ref 215) 478 200 479) ::
 (nat_lit 218,kG "_law_spoilt" 35 (.str "law_mainskeep_k40_houses_of_any_thing" 307) 217) ::
 (nat_lit 224,kC "law" "law" 481 482 483 205 1 3 223 219 181 220 .none (.ref 221) (.ref 222) 493 205 494) ::
 (nat_lit 225,kG "law" 36 (.str "law_mainskeep_k40_houses_of_any_thing" 307) 224) ::
 []
def addrs:List Addr:=[2,3,20,21,27,28,34,35,41,42,46,47,51,52,58,59,63,64,70,71,77,78,84,85,89,90,94,95,101,102,108,109,115,116,122,123,129,130,136,137,143,144,148,149,155,156,162,163,167,168,172,173,179,180,184,185,191,192,198,199,203,204,210,211,217,218,224,225]
theorem said:PySem.Challenge.rw_mainskeep_k40_houses_of_any_thing.wellSaid=true:=by kernel_rfl
theorem lB:∀ P,addrs=(heap P).map (·.1):=fun _=>by kernel_rfl
def q:Program:={ PySem.Challenge.pw_mainskeep_k40_houses_of_any_thing with main:={ PySem.Challenge.pw_mainskeep_k40_houses_of_any_thing.main with body:=[1,2,3,5,6,7,9,10,11,12,13,14,15,17,18,19,20,21,22,23,24,25,26,27,28,29,30,31,32,33,34,35,36].filterMap fun i=>PySem.Challenge.pw_mainskeep_k40_houses_of_any_thing.main.body[i]? } }
set_option maxHeartbeats 0 in
theorem left:PySem.W.LeftO PySem.Challenge.pw_mainskeep_k40_houses_of_any_thing q [] (fun s=>PySem.W.xlAt q [] s&&PySem.W.recOk (PySem.Challenge.rw_mainskeep_k40_houses_of_any_thing.row.toRowW.records) s) (PySem.W.Hook.obs (PySem.W.kHook heap addrs lB)) (PySem.W.Hook.val (PySem.W.kHook heap addrs lB)) 2212:=fun w=>by kernel_rfl
def rQ:DefRec:=⟨"law",iQ (top 36),fL (top 36),aC (top 36),Kz (top 36)⟩
theorem HJ:PySem.W.defOf q PySem.Challenge.rw_mainskeep_k40_houses_of_any_thing.row.toRowW.name=some (rQ,[]):=by kernel_rfl
theorem HN:PySem.Challenge.rw_mainskeep_k40_houses_of_any_thing.row.prog.theDef PySem.Challenge.rw_mainskeep_k40_houses_of_any_thing.row.name=some (rQ.params,rQ.body,rQ.scope):=by kernel_rfl
end K40
namespace L2
open PySem PySem.Spec PyProof.Rows
abbrev Key:=Sum Int Str
def uB:Key->Value->Bool
 | .inl k,v=>Value.isInt k v
 | .inr x,v=>Value.isStrOf x v
def QR (w:World):Key->Int
 | .inl k=>hashInt k
 | .inr x=>hashStr w x
theorem dh:∀ {k:Key} {v:Value},uB k v=true->(∃ i t,k=Sum.inl i∧v=Value.int i t)∨(∃ x t,k=Sum.inr x∧v=Value.str x t)
 | .inl i,v,h=>by
  obtain ⟨t,e⟩:=Value.isInt_shape (k:=i) (v:=v) h
  exact .inl ⟨i,t,rfl,e⟩
 | .inr x,v,h=>by
  obtain ⟨t,e⟩:=Value.isStrOf_shape (x:=x) (v:=v) h
  exact .inr ⟨x,t,rfl,e⟩
theorem Cz (i:Int) (t:Tok):uB (.inl i) (.int i t)=true:=by simp [uB,Value.isInt]
theorem CG (x:Str) (t:Tok):uB (.inr x) (.str x t)=true:=by simp [uB,Value.isStrOf]
theorem KR (a b:Int):decide ((Sum.inl a:Key)=Sum.inl b)=(a==b):=by
 by_cases e:a=b
 ·subst e;simp
 ·have h:¬ (Sum.inl a:Key)=Sum.inl b:=fun q=>e (Sum.inl.inj q)
  rw [decide_eq_false h]
  exact (beq_eq_false_iff_ne.mpr e).symm
theorem Lg (a b:Str):decide ((Sum.inr a:Key)=Sum.inr b)=decide (a=b):=by
 by_cases e:a=b
 ·subst e;simp
 ·have h:¬ (Sum.inr a:Key)=Sum.inr b:=fun q=>e (Sum.inr.inj q)
  rw [decide_eq_false h,decide_eq_false e]
theorem KY (a:Int) (b:Str):decide ((Sum.inl a:Key)=Sum.inr b)=false:=decide_eq_false (fun q=>nomatch q)
theorem KZ (a:Str) (b:Int):decide ((Sum.inr a:Key)=Sum.inl b)=false:=decide_eq_false (fun q=>nomatch q)
def gH (prog:Program) (w:World):PySem.KeyKind prog w Key where
 is:=uB
 hash:=QR w
 inj:=fun v a b ha hb=>by
  rcases dh ha with ⟨i,t,rfl,rfl⟩ | ⟨x,t,rfl,rfl⟩
  ·rcases dh hb with ⟨j,u,rfl,e⟩ | ⟨y,u,rfl,e⟩
   ·injection e with e1 _;rw [e1]
   ·exact nomatch e
  ·rcases dh hb with ⟨j,u,rfl,e⟩ | ⟨y,u,rfl,e⟩
   ·exact nomatch e
   ·injection e with e1 _;rw [e1]
 byValue:=fun k v h=>by
  rcases dh h with ⟨i,t,rfl,rfl⟩ | ⟨x,t,rfl,rfl⟩ <;> rfl
 pyHash:=fun hv h=>by
  rcases dh hv with ⟨i,t,rfl,rfl⟩ | ⟨x,t,rfl,rfl⟩
  ·exact wpAny_pyHash_int h
  ·exact wpAny_pyHash_str h
 eqBool:=fun hu hv h=>by
  rcases dh hu with ⟨i,t,rfl,rfl⟩ | ⟨x,t,rfl,rfl⟩
  ·rcases dh hv with ⟨j,u,rfl,rfl⟩ | ⟨y,u,rfl,rfl⟩
   ·rw [KR] at h;exact wpAny_eqBool_int h
   ·rw [KY] at h;exact SeqAt.EqAt.int_str i t y u _ _ _ _ h
  ·rcases dh hv with ⟨j,u,rfl,rfl⟩ | ⟨y,u,rfl,rfl⟩
   ·rw [KZ] at h;exact SeqAt.EqAt.str_int x t j u _ _ _ _ h
   ·rw [Lg] at h;exact wpAny_eqBool_str h
 «strs»:=fun k x t v h=>by
  rcases dh h with ⟨i,u,rfl,e⟩ | ⟨y,u,rfl,e⟩
  ·exact nomatch e
  ·injection e with e1 _
   subst e1
   cases v <;> rfl
theorem xK (prog:Program) (w:World) (i:Int) (t:Tok):(gH prog w).is (.inl i) (.int i t)=true:=Cz i t
theorem xM (prog:Program) (w:World) (x:Str) (t:Tok):(gH prog w).is (.inr x) (.str x t)=true:=CG x t
end L2
namespace L2
open PySem PySem.Spec PyProof.Rows
inductive V where
 | non | bl (b:Bool) | int (i:Int) | str (x:Str) | byt (b:Array UInt8) | flt (b:UInt64) | ref (a:Addr) | ty (n:String)
 deriving DecidableEq
def RelV:V->Value->Prop
 | .non,u=>u=Value.none
 | .bl b,u=>u=Value.bool b
 | .int i,u=>∃ t,u=Value.int i t
 | .str x,u=>∃ t,u=Value.str x t
 | .byt b,u=>∃ t,u=Value.bytes b t
 | .flt b,u=>∃ t,u=Value.float b t
 | .ref a,u=>u=Value.ref a
 | .ty n,u=>u=Value.type n
abbrev Vals:List V->List Value->Prop:=Paired RelV
theorem Vals.length {xs:List V} {us:List Value} (r:Vals xs us):xs.length=us.length:=Paired.length r
theorem Vals.get:∀ {xs:List V} {us:List Value} {i:Nat} {x:V},Vals xs us->xs[i]? = some x -> ∃ u,us[i]? = some u∧RelV x u
 | _,_,_,_,.nil,e=>by simp at e
 | _,_,0,_,.cons r _,e=>by simp at e;subst e;exact ⟨_,rfl,r⟩
 | _,_,i+1,x,.cons _ t,e=>by
  obtain ⟨u,h1,h2⟩:=Vals.get (i:=i) (x:=x) t (by simpa using e)
  exact ⟨u,by simpa using h1,h2⟩
theorem Vals.set {x:V} {u:Value} (r:RelV x u):∀ {xs:List V} {us:List Value} (i:Nat),Vals xs us->Vals (xs.set i x) (us.set i u)
 | _,_,_,.nil=>.nil
 | _,_,0,.cons _ t=>.cons r t
 | _,_,i+1,.cons q t=>.cons q (Vals.set r i t)
theorem Vals.append:∀ {xs ys:List V} {us ws:List Value},Vals xs us->Vals ys ws->Vals (xs++ys) (us++ws)
 | _,_,_,_,.nil,s=>s
 | _,_,_,_,.cons r t,s=>.cons r (Vals.append t s)
theorem Vals.take:∀ {xs:List V} {us:List Value} (n:Nat),Vals xs us->Vals (xs.take n) (us.take n)
 | _,_,0,_=>.nil
 | _,_,_+1,.nil=>.nil
 | _,_,n+1,.cons r t=>.cons r (Vals.take n t)
theorem Vals.drop:∀ {xs:List V} {us:List Value} (n:Nat),Vals xs us->Vals (xs.drop n) (us.drop n)
 | _,_,0,r=>r
 | _,_,_+1,.nil=>.nil
 | _,_,n+1,.cons _ t=>Vals.drop n t
theorem Vals.none_of:∀ {xs:List V} {us:List Value} {i:Nat},Vals xs us->xs[i]? = none->us[i]? = none:=fun {xs us i} r e=>by
 have h1:=r.length
 have h2:xs.length<=i:=List.getElem?_eq_none_iff.mp e
 exact List.getElem?_eq_none_iff.mpr (by omega)
def wu:Option V->Option Value->Prop
 | some v,some u=>RelV v u
 | none,none=>True
 | _,_=>False
def KV {κ : Type}:List (κ × V)->List (κ × Value)->Prop:=Paired fun (p : κ × V) (q : κ × Value)=>p.1=q.1∧RelV p.2 q.2
def kV:Key->V
 | .inl i=>.int i
 | .inr x=>.str x
inductive HO where
 | lst (xs:List V)
 | tup (xs:List V)
 | dK (kvs:List (Key×V)) | dT (kvs:List (List Key×V))
 | set (S:Int->Bool) (n:Nat)
 | ins (C dx:Addr) (fs:List (Str×V))
 | own (x:Addr)
 | xd (fs:List (Str×V))
 | met (f x:Addr)
 | rng (lo hi:Int)
 | frz (o:Obj) (u:HO)
 | tbl (ps:Array Value)
 | ext (φ : Heap->Prop)
abbrev Hp:=Addr->Option HO
def upd (H:Hp) (a:Addr) (o:HO):Hp:=fun b=>if b=a then some o else H b
theorem cD {H:Hp} {a:Addr} {o:HO}:upd H a o a=some o:=by unfold upd;rw [if_pos rfl]
theorem bG {H:Hp} {a b:Addr} {o:HO} (h:b≠a):upd H a o b=H b:=by unfold upd;rw [if_neg h]
theorem JD {H:Hp} {a:Addr} {o u:HO}:upd (upd H a o) a u=upd H a u:=by
 funext b;unfold upd;split <;> rfl
theorem bQ {H:Hp} {a b:Addr} {o:HO} (h:H a=some o) (h':H b=none):a≠b:=by
 intro e;subst e;rw [h] at h';cases h'
section
variable (P:Program) (w:World)
def dI (H:Hp) (h:Heap) (a:Addr):HO->Prop
 | .lst xs=>xs.length<=sizeLine ∧ ∃ (its:List Value) (n:Nat),Vals xs its∧h.get? a=some { cls:=.type "list",data:=.seq its.toArray n }
 | .tup xs=>xs.length<=sizeLine ∧ ∃ its:List Value,Vals xs its∧IsTup h a its.toArray
 | .dK kvs=>kvs.length<=sizeLine∧(a==sysModules)=false ∧ ∃ vs,KV kvs vs∧h.DictOf (gH P w) a vs
 | .dT kvs=>kvs.length<=sizeLine∧(a==sysModules)=false ∧ ∃ xs:List (List Key×Addr×Value),
   Paired (fun (p:List Key×V) (q:List Key×Addr×Value)=>p.1=q.1∧H q.2.1=some (.tup (p.1.map kV))∧RelV p.2 q.2.2) kvs xs ∧
   ∃ o es ep,h.get? a=some o∧o.ExactDict∧o.data = .dict es ep∧es.toList=xs.map (entryOfKey (tupleKind (gH P w)))∧(xs.map (·.1)).Nodup
 | .set S n=>h.SetOf (intKind P w) a S n
 | .ins C dx fs=>H dx=some (.own a)∧fs.length<=1000∧dx≠a∧h.get? a=some (PySem.W.instObj C dx) ∧
   ∃ mA,h.Ns1 dx mA∧(∀ f,wu (fs.lookup f) (mA f))∧PySem.Within mA (fs.map (·.1))
 | .own _=>∃ o,h.get? a=some o
 | .xd fs=>∃ mA,h.Ns1 a mA ∧ ∀ f,wu (fs.lookup f) (mA f)
 | .rng lo hi=>∃ t u v,h.get? a=some { cls:=.type "range",data:=.fields #[.int lo t,.int hi u,.int 1 v] }
 | .frz o u=>h.get? a=some o∧dI H h a u
 | .tbl ps=>h.get? a=some { cls:=.none,data:=.fields ps }
 | .met f x=>h.get? a=some (PySem.W.methodObj (.ref f) (.ref x))
 | .ext φ => φ h∧(∃ o,h.get? a=some o) ∧ ∀ h1 h2:Heap,φ h1->(∀ o,h1.get? a=some o->h2.get? a=some o) -> φ h2
def HOk (H:Hp) (h:Heap):Prop:=∀ a o,H a=some o->dI P w H h a o
end
section
variable {P:Program} {w:World} {H H':Hp} {h h':Heap} {a:Addr} {o:HO}
theorem dI.lt (x:dI P w H h a o):a<h.objs.size:=by
 cases o with
 | lst xs=>obtain ⟨_,_,_,_,e⟩:=x;exact Heap.lt_size e
 | tup xs=>obtain ⟨_,_,_,p⟩:=x;exact p.lt
 | dK kvs=>obtain ⟨_,_,_,_,o,_,_,e,_⟩:=x;exact Heap.lt_size e
 | dT kvs=>obtain ⟨_,_,_,_,o,_,_,e,_⟩:=x;exact Heap.lt_size e
 | set S n=>obtain ⟨o,_,_,_,e,_⟩:=x;exact Heap.lt_size e
 | ins C dx fs=>obtain ⟨_,_,_,e,_⟩:=x;exact Heap.lt_size e
 | own y=>obtain ⟨_,e⟩:=x;exact Heap.lt_size e
 | xd fs=>obtain ⟨_,⟨_,_,_,e,_⟩,_⟩:=x;exact Heap.lt_size e
 | rng lo hi=>obtain ⟨_,_,_,e⟩:=x;exact Heap.lt_size e
 | frz ob u=>obtain ⟨e,_⟩:=x;exact Heap.lt_size e
 | tbl ps=>exact Heap.lt_size (show h.get? a=some _ from x)
 | met f y=>exact Heap.lt_size (show h.get? a=some _ from x)
 | ext φ => obtain ⟨_,⟨_,e⟩,_⟩:=x;exact Heap.lt_size e
theorem Paired.mapP {α β : Type} {F G : α -> β -> Prop}:∀ {l₁ : List α} {l₂ : List β},Paired F l₁ l₂ -> (∀ a b,F a b->G a b)->Paired G l₁ l₂
 | _,_,.nil,_=>.nil
 | _,_,.cons r t,f=>.cons (f _ _ r) (Paired.mapP t f)
theorem dI.stay (x:dI P w H h a o) (k:∀ b u,(b=a∨H b=some (.own a))->h.get? b=some u->h'.get? b=some u)
  (ho:∀ b,H b=some (.own a)->H' b=some (.own a)) (ht:∀ b xs,H b=some (.tup xs)->H' b=some (.tup xs)):dI P w H' h' a o:=by
 induction o with
 | lst xs=>obtain ⟨z,its,n,r,e⟩:=x;exact ⟨z,its,n,r,k _ _ (.inl rfl) e⟩
 | tup xs=>obtain ⟨z,its,r,ob,e,c⟩:=x;exact ⟨z,its,r,ob,k _ _ (.inl rfl) e,c⟩
 | dK kvs=>obtain ⟨z,y,vs,r,ob,es,ep,e,c⟩:=x;exact ⟨z,y,vs,r,ob,es,ep,k _ _ (.inl rfl) e,c⟩
 | dT kvs=>
  obtain ⟨z,y,xs,r,ob,es,ep,e,c⟩:=x
  exact ⟨z,y,xs,Paired.mapP r fun p q z=>⟨z.1,ht _ _ z.2.1,z.2.2⟩,ob,es,ep,k _ _ (.inl rfl) e,c⟩
 | set S n=>obtain ⟨ob,es,ep,t,e,c⟩:=x;exact ⟨ob,es,ep,t,k _ _ (.inl rfl) e,c⟩
 | ins C dx fs=>
  obtain ⟨d,z,ne,e,mA,⟨od,es,ep,e2,c⟩,r⟩:=x
  exact ⟨ho _ d,z,ne,k _ _ (.inl rfl) e,mA,⟨od,es,ep,k _ _ (.inr d) e2,c⟩,r⟩
 | own y=>obtain ⟨ob,e⟩:=x;exact ⟨ob,k _ _ (.inl rfl) e⟩
 | xd fs=>obtain ⟨mA,⟨od,es,ep,e,c⟩,r⟩:=x;exact ⟨mA,⟨od,es,ep,k _ _ (.inl rfl) e,c⟩,r⟩
 | rng lo hi=>obtain ⟨t,u,v,e⟩:=x;exact ⟨t,u,v,k _ _ (.inl rfl) e⟩
 | frz ob u ih=>obtain ⟨e,q⟩:=x;exact ⟨k _ _ (.inl rfl) e,ih q⟩
 | tbl ps=>
  have e:h.get? a=some { cls:=.none,data:=.fields ps }:=x
  show h'.get? a=some { cls:=.none,data:=.fields ps }
  exact k a _ (.inl rfl) e
 | met f y=>
  have e:h.get? a=some (PySem.W.methodObj (.ref f) (.ref y)):=x
  show h'.get? a=some (PySem.W.methodObj (.ref f) (.ref y))
  exact k a _ (.inl rfl) e
 | ext φ => obtain ⟨p,⟨o,e⟩,st⟩:=x;exact ⟨st _ _ p fun o q=>k _ _ (.inl rfl) q,⟨o,k _ _ (.inl rfl) e⟩,st⟩
theorem HOk.lt (x:HOk P w H h) (e:H a=some o):a<h.objs.size:=(x a o e).lt
theorem HOk.fresh (x:HOk P w H h) (e:h.objs.size<=a):H a=none:=by
 cases q:H a with
 | none=>rfl
 | some u=>exact absurd (Nat.lt_of_lt_of_le (x.lt q) e) (Nat.lt_irrefl _)
theorem HOk.kept (x:HOk P w H h) (k:∀ b u,h.get? b=some u->h'.get? b=some u):HOk P w H h':=fun a o e=>
 (x a o e).stay (fun b u _ q=>k b u q) (fun _ q=>q) fun _ _ q=>q
theorem HOk.laid (x:HOk P w H h) (k:∀ b u,h.get? b=some u->h'.get? b=some u) (hp:h.objs.size<=a) (new:dI P w (upd H a o) h' a o):HOk P w (upd H a o) h':=fun b u e=>by
 have hn:=x.fresh hp
 by_cases hb:b=a
 ·subst hb;rw [cD] at e;cases e;exact new
 ·rw [bG hb] at e
  exact (x b u e).stay (fun c v _ q=>k c v q) (fun c q=>by rw [bG (bQ q hn)];exact q) fun c xs q=>by rw [bG (bQ q hn)];exact q
end
def Rd (H:Hp) (a:Addr) (u:HO):Prop:=H a=some u ∨ ∃ o,H a=some (.frz o u)
theorem Rd.of {H:Hp} {a:Addr} {u:HO} (h:H a=some u):Rd H a u:=.inl h
theorem Rd.ok {P:Program} {w:World} {H:Hp} {h:Heap} {a:Addr} {u:HO} (r:Rd H a u) (x:HOk P w H h):dI P w H h a u:=by
 rcases r with r | ⟨o,r⟩
 ·exact x a u r
 ·obtain ⟨_,q⟩:=x a _ r
  exact q
def Mut:Option HO->Prop
 | some (.lst _)=>True
 | some (.dK _)=>True
 | some (.dT _)=>True
 | some (.set _ _)=>True
 | some (.ins _ _ _)=>True
 | some (.ext _)=>True
 | _=>False
section
variable {P:Program} {w:World} {H:Hp} {h h':Heap} {x e:Addr} {o':HO}
theorem HOk.write (ok:HOk P w H h) (mu:Mut (H x)) (he:e=x∨H e=some (.own x)) (k:∀ b u,b≠e->h.get? b=some u->h'.get? b=some u) (heo:∃ u,h'.get? e=some u)
  (new:dI P w (upd H x o') h' x o'):HOk P w (upd H x o') h':=fun b u q=>by
 have nown:∀ c y,H c=some (.own y)->c≠x:=fun c y r z=>by subst z;rw [r] at mu;exact mu
 have ntup:∀ c xs,H c=some (.tup xs)->c≠x:=fun c xs r z=>by subst z;rw [r] at mu;exact mu
 by_cases hb:b=x
 ·subst hb;rw [cD] at q;cases q;exact new
 ·rw [bG hb] at q
  by_cases hbe:b=e
  ·have q':H b=some (.own x):=by
    rcases he with z | z
    ·exact absurd (hbe.trans z) hb
    ·rw [hbe];exact z
   rw [q] at q';cases q'
   obtain ⟨v,hv⟩:=heo
   exact ⟨v,by rw [hbe];exact hv⟩
  ·refine (ok b u q).stay (fun c v hc r=>k c v ?_ r) (fun c r=>by rw [bG (nown c b r)];exact r) fun c xs r=>by rw [bG (ntup c xs r)];exact r
   rcases hc with rfl | hc
   ·exact hbe
   ·rintro rfl
    rcases he with z | z
    ·exact nown c b hc z
    ·rw [hc] at z;cases z;exact hb rfl
end
structure Un (fs ex:List Addr) (H H':Hp) (h h':Heap):Prop where
 keep:∀ b o,h.get? b=some o->H b=none->b ∉ fs->b ∉ ex->h'.get? b=some o
 slot:∀ b o,h.get? b=some o->H b=none->b∈fs->b ∉ ex -> ∃ sl,h'.get? b=some { o with slots:=sl }
 free:∀ b o,h.get? b=some o->H b=none->b ∉ ex->H' b=none
 there:∀ b o,h.get? b=some o->b ∉ ex -> ∃ o',h'.get? b=some o'
 tups:∀ b xs,H b=some (.tup xs)->H' b=some (.tup xs)
 frzs:∀ b o u,H b=some (.frz o u)->H' b=some (.frz o u)
 tbls:∀ b ps,H b=some (.tbl ps) -> ∃ more,H' b=some (.tbl (ps++more))
section
variable {fs fs' ex ex':List Addr} {H H1 H2:Hp} {h h1 h2 h':Heap} {a x e:Addr} {o:HO}
theorem Un.any (u:Un fs ex H H1 h h1) {b:Addr} {ob:Obj} (q:h.get? b=some ob) (n:H b=none) (hx:b ∉ ex):∃ sl,h1.get? b=some { ob with slots:=sl }:=by
 by_cases hb:b∈fs
 ·exact u.slot b ob q n hb hx
 ·exact ⟨ob.slots,u.keep b ob q n hb hx⟩
theorem Un.trans (a:Un fs ex H H1 h h1) (b:Un fs ex H1 H2 h1 h2):Un fs ex H H2 h h2 where
 keep:=fun c ob q n hc hx=>b.keep c ob (a.keep c ob q n hc hx) (a.free c ob q n hx) hc hx
 slot:=fun c ob q n hc hx=>by
  obtain ⟨sl,e1⟩:=a.slot c ob q n hc hx
  obtain ⟨sl',e2⟩:=b.slot c _ e1 (a.free c ob q n hx) hc hx
  exact ⟨sl',e2⟩
 free:=fun c ob q n hx=>by
  obtain ⟨o',e1⟩:=a.there c ob q hx
  exact b.free c o' e1 (a.free c ob q n hx) hx
 there:=fun c ob q hx=>by
  obtain ⟨o',e1⟩:=a.there c ob q hx
  exact b.there c o' e1 hx
 tups:=fun c xs q=>b.tups c xs (a.tups c xs q)
 frzs:=fun c ob xs q=>b.frzs c ob xs (a.frzs c ob xs q)
 tbls:=fun c ps q=>by
  obtain ⟨m1,e1⟩:=a.tbls c ps q
  obtain ⟨m2,e2⟩:=b.tbls c _ e1
  exact ⟨m1++m2,by rw [e2,Array.append_assoc]⟩
theorem Un.kept (k:∀ b u,h.get? b=some u->h'.get? b=some u):Un fs ex H H h h':=
 ⟨fun b ob q _ _ _=>k b ob q,fun b ob q _ _ _=>⟨ob.slots,k b ob q⟩,fun _ _ _ n _=>n,fun b ob q _=>⟨ob,k b ob q⟩,fun _ _ q=>q,fun _ _ _ q=>q,fun _ ps q=>⟨#[],by rw [q];simp⟩⟩
theorem Un.refl:Un fs ex H H h h:=Un.kept fun _ _ q=>q
theorem Un.laid (k:∀ b u,h.get? b=some u->h'.get? b=some u) (hp:h.objs.size<=a) (hn:H a=none):Un fs ex H (upd H a o) h h' where
 keep:=fun b u q _ _ _=>k b u q
 slot:=fun b u q _ _ _=>⟨u.slots,k b u q⟩
 free:=fun b u q n _=>by rw [bG (Nat.ne_of_lt (Nat.lt_of_lt_of_le (Heap.lt_size q) hp))];exact n
 there:=fun b u q _=>⟨u,k b u q⟩
 tups:=fun b xs q=>by rw [bG (bQ q hn)];exact q
 frzs:=fun b u xs q=>by rw [bG (bQ q hn)];exact q
 tbls:=fun b ps q=>⟨#[],by rw [bG (bQ q hn),q];simp⟩
theorem Un.write (mu:Mut (H x)) (he:e=x∨H e=some (.own x)) (k:∀ b u,b≠e->h.get? b=some u->h'.get? b=some u) (heo:∃ u,h'.get? e=some u):Un fs ex H (upd H x o) h h':=by
 have hx:∀ b,H b=none->b≠x:=fun b n z=>by subst z;rw [n] at mu;exact mu
 have hb:∀ b,H b=none->b≠e:=fun b n z=>by
  subst z
  rcases he with r | r
  ·exact hx b n r
  ·rw [n] at r;cases r
 have hm:∀ b u,H b=some u -> ¬ Mut (some u)->b≠x:=fun b u q nm z=>by subst z;rw [q] at mu;exact nm mu
 refine ⟨fun b u q n _ _=>k b u (hb b n) q,fun b u q n _ _=>⟨u.slots,k b u (hb b n) q⟩,fun b u q n _=>by rw [bG (hx b n)];exact n,fun b u q _=>?_,
  fun b xs q=>by rw [bG (hm b _ q fun z=>z)];exact q,fun b u xs q=>by rw [bG (hm b _ q fun z=>z)];exact q,fun b ps q=>⟨#[],by rw [bG (hm b _ q fun z=>z),q];simp⟩⟩
 by_cases hbe:b=e
 ·subst hbe;exact heo
 ·exact ⟨u,k b u hbe q⟩
theorem Un.mono (u:Un fs ex H H1 h h1) (hs:∀ b∈fs,b∈fs') (hx:∀ b∈ex,b∈ex'):Un fs' ex' H H1 h h1:=
 ⟨fun b ob q n hb he=>u.keep b ob q n (fun z=>hb (hs b z)) fun z=>he (hx b z),fun _ _ q n _ he=>u.any q n fun z=>he (hx _ z),fun b ob q n he=>u.free b ob q n fun z=>he (hx b z),fun b ob q he=>u.there b ob q fun z=>he (hx b z),u.tups,u.frzs,u.tbls⟩
end
def trk (h:Heap) (H:Hp):List Addr:=(List.range h.objs.size).filter fun a=>(H a).isSome
def vf (h:Heap) (H:Hp):Heap:=PySem.W.hideAll h (trk h H)
theorem Cu (h:Heap) (H:Hp):(vf h H).objs.size=h.objs.size:=PySem.W.hideAll_size _ _
theorem Ex {h:Heap} {H:Hp} {b:Addr} {o:Obj} (e:h.get? b=some o) (n:H b=none):(vf h H).get? b=some o:=
 PySem.W.hideAll_get _ e fun hm=>by
  have q:(H b).isSome=true:=(List.mem_filter.mp hm).2
  rw [n] at q;simp at q
theorem Ij {h:Heap} {H:Hp} {b:Addr} {o:Obj} (e:(vf h H).get? b=some o):h.get? b=some o∧H b=none:=by
 have e':h.get? b=some o:=PySem.W.of_hideAll (trk h H) e
 refine ⟨e',?_⟩
 cases q:H b with
 | none=>rfl
 | some x=>
  have hm:b∈trk h H:=List.mem_filter.mpr ⟨List.mem_range.mpr (Heap.lt_size e'),by simp [q]⟩
  have z:(vf h H).get? b=none:=PySem.W.hideAll_none (trk h H) hm
  rw [z] at e;cases e
def Hn (g h:Heap) (L:Addr):List (Addr×Obj):=(List.range h.objs.size).filterMap fun a=>if a=L∨(g.get? a).isSome=true then none else (h.get? a).map fun o=>(a,o)
def rest (g h:Heap) (L d:Addr):List (Addr×Obj):=(Hn g h L).filter fun p=>decide (p.1≠d)
end L2
namespace L2
open PySem PySem.Spec PyProof.Rows
structure Mod (K:PySem.W.Frag) (mg:Str->Option Value) (base:Heap):Prop where
 kin:K.In base
 glob:base.Ns mainGlobals mg
 blt:∃ mb,base.Ns builtinsNs mb ∧ ∀ x:Str,x ≠ "__name__" -> mb x=bootBuiltins x
 nolimit:base.NoLimit
 seer:base.NoSeer
structure Cx where
 prog:Program
 w:World
 K:PySem.W.Frag
 mg:Str->Option Value
 base:Heap
 A:Around
 N:List Str
 s₀ : Shared
 H₀ : Hp
 env:Env
 outer:List Env
 stack:List Env
 ex:List Addr
 fn:Str->Bool
 calm:Bool
 pn:List (Addr×Obj)
 xe:Value->Shared->Prop
def frs (l:List Env):List Addr:=l.filterMap (·.frame)
abbrev Cx.fs (X:Cx):List Addr:=frs X.outer
def Vis (sc:Scope) (x:Str):Prop:=sc.names.lookup x=some .local∨sc.names.lookup x=some .cell∨sc.names.lookup x=some .free
def Loc (sc:Scope) (x:Str):Prop:=sc.names.lookup x=some .local∨sc.names.lookup x=some .cell
def Look (env:Env) (h:Heap) (m:Str->Option Value) (x:Str) (u:Value):Prop:=
 (env.kindOf x=some .local∧m x=some u)∨((env.kindOf x=some .cell∨env.kindOf x=some .free) ∧ ∃ c,env.cells.lookup x=some c∧h.IsCell c (some u))
structure Cx.Ok (X:Cx):Prop where
 mod:Mod X.K X.mg X.base
 kind:X.env.scope.kind = .function
 glob:X.env.globals=mainGlobals
 blt:X.env.builtins=builtinsNs
 above:X.s₀.heap.objs.size<=X.env.locals
 inj:∀ x y c,X.env.cells.lookup x=some c->X.env.cells.lookup y=some c->x=y
 has:∀ x,(X.env.kindOf x=some .cell∨X.env.kindOf x=some .free) -> ∃ c,X.env.cells.lookup x=some c
 cab:∀ x c,X.fn x=true->X.env.cells.lookup x=some c->X.s₀.heap.objs.size<=c
 hd:X.calm=true->X.A.handled=none
 frames:X.A.frames=some X.stack
 stk:X.stack=X.outer∨(X.stack=X.env :: X.outer∧X.env.frame=some X.env.locals)
 exf:∀ b∈X.ex,b≠X.env.locals ∧ ∀ x c,X.env.cells.lookup x=some c->c≠b
 bs:∀ b o,X.base.get? b=some o->X.s₀.heap.get? b=some o∧X.H₀ b=none
 bsz:X.base.objs.size<=X.s₀.heap.objs.size
 noex:∀ b o,X.base.get? b=some o->b ∉ X.ex
 exfs:∀ b∈X.ex,b ∉ X.fs
 funs:X.s₀.heap.FunFrames X.base X.outer
 frf:∀ b∈X.fs,X.H₀ b=none
structure Inv (X:Cx) (pins:List (Addr×Obj)) (σ : List (Option V)) (H:Hp) (s:Shared):Prop where
 ok:X.Ok
 os:s.os=X.s₀.os
 bare:AllBare s.gens
 base:Un X.fs X.ex X.H₀ H X.s₀.heap s.heap
 loc:∃ m,s.heap.Ns X.env.locals m ∧ ∀ (i:Nat) (x:Str) (v:V),X.N[i]? = some x -> σ[i]? = some (some v)->Vis X.env.scope x -> ∃ u,RelV v u∧Look X.env s.heap m x u
 cell:∀ x c,X.env.cells.lookup x=some c -> ∃ v,s.heap.IsCell c v
 free:H X.env.locals=none
 freeC:∀ x c,X.env.cells.lookup x=some c->H c=none
 pin:∀ p∈X.pn++pins,s.heap.get? p.1=some p.2∧H p.1=none∧p.1≠X.env.locals∧p.1 ∉ X.fs ∧ ∀ v,p.2.data ≠ .cell v
 hok:HOk X.prog X.w H s.heap
 len : σ.length=X.N.length
section
variable {X:Cx} {pins:List (Addr×Obj)} {σ : List (Option V)} {H H':Hp} {s:Shared} {h':Heap}
theorem Cx.Ok.nofr (ok:X.Ok) {b:Addr} {o:Obj} (e:X.base.get? b=some o):b ∉ X.fs:=fun hb=>by
 have:=(ok.funs.mem hb).1
 rw [e] at this;cases this
theorem Inv.bs (I:Inv X pins σ H s):∀ b o,X.base.get? b=some o->s.heap.get? b=some o∧H b=none:=fun b o e=>
 ⟨I.base.keep b o (I.ok.bs b o e).1 (I.ok.bs b o e).2 (I.ok.nofr e) (I.ok.noex b o e),I.base.free b o (I.ok.bs b o e).1 (I.ok.bs b o e).2 (I.ok.noex b o e)⟩
theorem Inv.bk (I:Inv X pins σ H s):∀ b o,X.base.get? b=some o->s.heap.get? b=some o:=fun b o e=>(I.bs b o e).1
theorem Inv.mod (I:Inv X pins σ H s):Mod X.K X.mg X.base:=I.ok.mod
theorem Inv.kIn (I:Inv X pins σ H s):X.K.In s.heap:=I.ok.mod.kin.keeps I.bk
theorem Inv.nolimit (I:Inv X pins σ H s):s.heap.NoLimit:=I.ok.mod.nolimit.keeps I.bk
theorem Inv.fr (I:Inv X pins σ H s):∃ m,Fr X.base X.env.locals s.heap m:=
 let ⟨m,hn,_⟩:=I.loc
 ⟨m,hn,I.bk,Nat.le_trans I.ok.bsz I.ok.above⟩
theorem Inv.lt (I:Inv X pins σ H s):X.env.locals<s.heap.objs.size:=let ⟨_,hn,_⟩:=I.loc;hn.lt
theorem Inv.sz (I:Inv X pins σ H s):X.s₀.heap.objs.size<=s.heap.objs.size:=Nat.le_trans I.ok.above (Nat.le_of_lt I.lt)
theorem Inv.nofs (I:Inv X pins σ H s) {a:Addr} (h:s.heap.objs.size<=a):a ∉ X.fs:=fun hb=>by
 obtain ⟨_,o,ho,_⟩:=I.ok.funs.mem hb
 exact absurd (Nat.lt_of_lt_of_le (Heap.lt_size ho) (Nat.le_trans I.sz h)) (Nat.lt_irrefl _)
theorem Inv.cne (I:Inv X pins σ H s):∀ x c,X.env.cells.lookup x=some c->c≠X.env.locals:=fun x c e z=>by
 obtain ⟨v,o,ho,hd⟩:=I.cell x c e
 obtain ⟨m,⟨o',es,ep,ho',hd',_⟩,_⟩:=I.loc
 rw [z,ho'] at ho;cases ho;rw [hd'] at hd;cases hd
theorem Inv.funs (I:Inv X pins σ H s):s.heap.FunFrames X.base X.outer:=by
 have all:∀ (l:List Env),(∀ b∈frs l,b∈X.fs)->X.s₀.heap.FunFrames X.base l->s.heap.FunFrames X.base l:=by
  intro l
  induction l with
  | nil=>intro _ _;trivial
  | cons env r ih=>
   intro hs hl
   obtain ⟨hk,⟨L,o,hf,hn,ho,hd⟩,hr⟩:=hl
   have hL:L∈X.fs:=hs L (by unfold frs;rw [List.filterMap_cons,hf];exact List.mem_cons_self)
   obtain ⟨sl,e⟩:=I.base.slot L o ho (I.ok.frf L hL) hL fun z=>I.ok.exfs L z hL
   exact ⟨hk,⟨L,_,hf,hn,e,hd⟩,ih (fun b hb=>hs b (by unfold frs;rw [List.filterMap_cons,hf];exact List.mem_cons_of_mem _ hb)) hr⟩
 exact all X.outer (fun _ hb=>hb) I.ok.funs
theorem Inv.stack (I:Inv X pins σ H s):s.heap.FunFrames X.base X.stack:=by
 rcases I.ok.stk with e | ⟨e,hf⟩
 ·rw [e];exact I.funs
 ·rw [e]
  obtain ⟨m,hn,_⟩:=I.loc
  refine .cons (by rw [I.ok.kind];decide) hf hn ?_ I.funs
  exact Heap.get?_none_of_le (Nat.le_trans I.ok.bsz I.ok.above)
theorem Inv.stkSub (I:Inv X pins σ H s):∀ b∈frs X.stack,b∈X.env.locals :: X.fs:=fun b hb=>by
 rcases I.ok.stk with e | ⟨e,hf⟩
 ·rw [e] at hb;exact List.mem_cons_of_mem _ hb
 ·rw [e] at hb
  unfold frs at hb
  rw [List.filterMap_cons,hf] at hb
  exact hb
theorem Inv.stkFree (I:Inv X pins σ H s):∀ b∈frs X.stack,H b=none:=fun b hb=>by
 rcases List.mem_cons.mp (I.stkSub b hb) with e | hb
 ·rw [e];exact I.free
 ·obtain ⟨_,o,ho,_⟩:=I.ok.funs.mem hb
  exact I.base.free b o ho (I.ok.frf b hb) fun z=>I.ok.exfs b z hb
theorem Inv.step {g':Array GenState} {t':Nat} {d':Drawn} {ch:List Addr} (I:Inv X pins σ H s)
  (hch:∀ b∈ch,(b∈X.ex∨X.s₀.heap.objs.size<=b)∧b≠X.env.locals∧(∀ x c,X.env.cells.lookup x=some c->c≠b) ∧ ∀ p∈X.pn++pins,p.1≠b)
  (keep:∀ b o,b≠X.env.locals->b ∉ X.fs->b ∉ ch->s.heap.get? b=some o->H b=none->h'.get? b=some o)
  (slot:∀ b o,b≠X.env.locals->b∈X.fs->b ∉ ch->s.heap.get? b=some o->H b=none -> ∃ sl,h'.get? b=some { o with slots:=sl }) (free:∀ b o,b ∉ ch->s.heap.get? b=some o->H b=none->H' b=none)
  (there:∀ b o,b ∉ ch->s.heap.get? b=some o -> ∃ o',h'.get? b=some o')
  (tups:∀ b xs,H b=some (.tup xs)->H' b=some (.tup xs)) (frzs:∀ b o u,H b=some (.frz o u)->H' b=some (.frz o u)) (tbls:∀ b ps,H b=some (.tbl ps) -> ∃ more,H' b=some (.tbl (ps++more)))
  (ns:∀ m,s.heap.Ns X.env.locals m->h'.Ns X.env.locals m) (hok:HOk X.prog X.w H' h') (hg:AllBare g') :
  Inv X pins σ H' { s with heap:=h',gens:=g',drawn:=d',toks:=t' }:=by
 have neL:∀ b o,X.s₀.heap.get? b=some o->b≠X.env.locals:=fun b o e=>Nat.ne_of_lt (Nat.lt_of_lt_of_le (Heap.lt_size e) I.ok.above)
 have neC:∀ b o,X.s₀.heap.get? b=some o->b ∉ X.ex->b ∉ ch:=fun b o e hx hb=>by
  rcases (hch b hb).1 with z | z
  ·exact hx z
  ·exact absurd (Nat.lt_of_lt_of_le (Heap.lt_size e) z) (Nat.lt_irrefl _)
 have cellK:∀ x c,X.env.cells.lookup x=some c -> ∀ v,s.heap.IsCell c v->h'.IsCell c v:=fun x c e v ⟨o,ho,hd⟩=>by
  have nch:c ∉ ch:=fun z=>(hch c z).2.2.1 x c e rfl
  by_cases hc:c∈X.fs
  ·obtain ⟨sl,q⟩:=slot c o (I.cne x c e) hc nch ho (I.freeC x c e)
   exact ⟨_,q,hd⟩
  ·exact ⟨o,keep c o (I.cne x c e) hc nch ho (I.freeC x c e),hd⟩
 refine ⟨I.ok,I.os,hg,⟨fun b o e n hb hx=>?_,fun b o e n hb hx=>?_,fun b o e n hx=>?_,fun b o e hx=>?_,fun b xs e=>tups b xs (I.base.tups b xs e),fun b o xs e=>frzs b o xs (I.base.frzs b o xs e),fun b ps e=>?_⟩,?_,fun x c e=>?_,?_,fun x c e=>?_,fun p hp=>?_,hok,I.len⟩
 ·exact keep b o (neL b o e) hb (neC b o e hx) (I.base.keep b o e n hb hx) (I.base.free b o e n hx)
 ·obtain ⟨sl,e1⟩:=I.base.slot b o e n hb hx
  obtain ⟨sl',e2⟩:=slot b _ (neL b o e) hb (neC b o e hx) e1 (I.base.free b o e n hx)
  exact ⟨sl',e2⟩
 ·obtain ⟨o',e1⟩:=I.base.there b o e hx
  exact free b o' (neC b o e hx) e1 (I.base.free b o e n hx)
 ·obtain ⟨o',e1⟩:=I.base.there b o e hx
  exact there b o' (neC b o e hx) e1
 ·obtain ⟨m1,e1⟩:=I.base.tbls b ps e
  obtain ⟨m2,e2⟩:=tbls b _ e1
  exact ⟨m1++m2,by rw [e2,Array.append_assoc]⟩
 ·obtain ⟨m,hn,hl⟩:=I.loc
  refine ⟨m,ns m hn,fun i x v e1 e2 e3=>?_⟩
  obtain ⟨u,r,l⟩:=hl i x v e1 e2 e3
  refine ⟨u,r,?_⟩
  rcases l with l | ⟨k,c,e,z⟩
  ·exact .inl l
  ·exact .inr ⟨k,c,e,cellK x c e _ z⟩
 ·obtain ⟨v,z⟩:=I.cell x c e
  exact ⟨v,cellK x c e v z⟩
 ·obtain ⟨m,⟨o,_,_,ho,_⟩,_⟩:=I.loc
  exact free _ o (fun z=>(hch _ z).2.1 rfl) ho I.free
 ·obtain ⟨v,o,ho,hd⟩:=I.cell x c e
  exact free c o (fun z=>(hch c z).2.2.1 x c e rfl) ho (I.freeC x c e)
 ·obtain ⟨e,n,ne,nf,d⟩:=I.pin p hp
  have nch:p.1 ∉ ch:=fun z=>(hch p.1 z).2.2.2 p hp rfl
  exact ⟨keep p.1 p.2 ne nf nch e n,free p.1 p.2 nch e n,ne,nf,d⟩
theorem Inv.un {t':Nat} (I:Inv X pins σ H s) (u:Un X.fs [] H H' s.heap h') (hok:HOk X.prog X.w H' h'):Inv X pins σ H' { s with heap:=h',toks:=t' }:=by
 obtain ⟨m,⟨o,es,ep,ho,r⟩,_⟩:=id I.loc
 obtain ⟨sl,hL⟩:=u.any ho I.free (by simp)
 exact I.step (g':=s.gens) (d':=s.drawn) (ch:=[]) (fun _ z=>nomatch z) (fun b o _ hb _ e n=>u.keep b o e n hb (by simp)) (fun b o _ hb _ e n=>u.slot b o e n hb (by simp)) (fun b o _ e n=>u.free b o e n (by simp)) (fun b o _ e=>u.there b o e (by simp)) u.tups u.frzs u.tbls (fun m' hm=>by
  obtain ⟨o',es',ep',ho',r'⟩:=hm
  rw [ho] at ho';cases ho'
  exact ⟨_,es',ep',hL,r'⟩) hok I.bare
theorem Inv.call {g':Array GenState} {t':Nat} {d':Drawn} {ch:List Addr} (I:Inv X pins σ H s) (u:Un (frs X.stack) ch H H' s.heap h') (hok:HOk X.prog X.w H' h') (hg:AllBare g')
  (hch:∀ b∈ch,(b∈X.ex∨X.s₀.heap.objs.size<=b)∧b≠X.env.locals∧(∀ x c,X.env.cells.lookup x=some c->c≠b) ∧ ∀ p∈X.pn++pins,p.1≠b) :
  Inv X pins σ H' { s with heap:=h',gens:=g',drawn:=d',toks:=t' }:=by
 obtain ⟨m,⟨o,es,ep,ho,r⟩,_⟩:=id I.loc
 obtain ⟨sl,hL⟩:=u.any ho I.free fun z=>(hch _ z).2.1 rfl
 exact I.step (ch:=ch) hch (fun b o hL hb hc e n=>u.keep b o e n (fun z=>(List.mem_cons.mp (I.stkSub b z)).elim hL hb) hc) (fun b o _ _ hc e n=>u.any e n hc) (fun b o hc e n=>u.free b o e n hc) (fun b o hc e=>u.there b o e hc) u.tups u.frzs u.tbls (fun m' hm=>by
  obtain ⟨o',es',ep',ho',r'⟩:=hm
  rw [ho] at ho';cases ho'
  exact ⟨_,es',ep',hL,r'⟩) hok hg
theorem Inv.turned {t':Nat} {it:Addr} (I:Inv X pins σ H s) (k:∀ b o,b≠it->s.heap.get? b=some o->h'.get? b=some o) (hn:H it=none) (hL:it≠X.env.locals)
  (h1:it∈X.ex∨X.s₀.heap.objs.size<=it) (h2:∀ x c,X.env.cells.lookup x=some c->c≠it) (h3:∀ p∈X.pn++pins,p.1≠it):Inv X pins σ H { s with heap:=h',toks:=t' }:=by
 have nit:∀ b u,H b=some u->b≠it:=fun b u e z=>by rw [z,hn] at e;cases e
 refine I.step (g':=s.gens) (d':=s.drawn) (ch:=[it]) (fun b hb=>?_) (fun b o _ _ hc e _=>k b o (fun z=>hc (by simp [z])) e) (fun b o _ _ hc e _=>⟨o.slots,k b o (fun z=>hc (by simp [z])) e⟩) (fun _ _ _ _ n=>n)
  (fun b o hc e=>⟨o,k b o (fun z=>hc (by simp [z])) e⟩) (fun _ _ e=>e) (fun _ _ _ e=>e) (fun b ps e=>⟨#[],by rw [e];simp⟩) (fun m hm=>?_) (fun b u e=>?_) I.bare
 ·have e:b=it:=by simpa using hb
  subst e
  exact ⟨h1,hL,h2,h3⟩
 ·obtain ⟨o,es,ep,ho,r⟩:=hm
  exact ⟨o,es,ep,k _ o (Ne.symm hL) ho,r⟩
 ·refine (I.hok b u e).stay (fun c v hc q=>k c v ?_ q) (fun _ q=>q) fun _ _ q=>q
  rcases hc with z | z
  ·rw [z];exact nit b u e
  ·exact nit c _ z
theorem Inv.tok (I:Inv X pins σ H s) (t:Nat):Inv X pins σ H { s with toks:=t }:=I.un (h':=s.heap) (t':=t) Un.refl I.hok
theorem Inv.kept {t':Nat} (I:Inv X pins σ H s) (k:∀ b u,s.heap.get? b=some u->h'.get? b=some u):Inv X pins σ H { s with heap:=h',toks:=t' }:=I.un (Un.kept k) (I.hok.kept k)
theorem Inv.laid {a:Addr} {o:HO} {t':Nat} (I:Inv X pins σ H s) (k:∀ b u,s.heap.get? b=some u->h'.get? b=some u) (hp:s.heap.objs.size<=a) (new:dI X.prog X.w (upd H a o) h' a o) :
  Inv X pins σ (upd H a o) { s with heap:=h',toks:=t' }:=I.un (Un.laid k hp (I.hok.fresh hp)) (I.hok.laid k hp new)
theorem Inv.write {x e:Addr} {o:HO} {t':Nat} (I:Inv X pins σ H s) (mu:Mut (H x)) (he:e=x∨H e=some (.own x)) (k:∀ b u,b≠e->s.heap.get? b=some u->h'.get? b=some u) (heo:∃ u,h'.get? e=some u)
  (new:dI X.prog X.w (upd H x o) h' x o):Inv X pins σ (upd H x o) { s with heap:=h',toks:=t' }:=I.un (Un.write mu he k heo) (I.hok.write mu he k heo new)
theorem Inv.pins_of {pins':List (Addr×Obj)} (I:Inv X pins σ H s) (h:∀ p∈pins',s.heap.get? p.1=some p.2∧H p.1=none∧p.1≠X.env.locals∧p.1 ∉ X.fs ∧ ∀ v,p.2.data ≠ .cell v):Inv X pins' σ H s:=
 ⟨I.ok,I.os,I.bare,I.base,I.loc,I.cell,I.free,I.freeC,fun p hp=>(List.mem_append.mp hp).elim (fun z=>I.pin p (List.mem_append_left _ z)) (h p),I.hok,I.len⟩
theorem xT {N:List Str} (hN:N.Nodup) {i j:Nat} {x:Str} (a:N[i]? = some x) (b:N[j]? = some x):i=j:=by
 obtain ⟨h1,e1⟩:=List.getElem?_eq_some_iff.mp a
 obtain ⟨h2,e2⟩:=List.getElem?_eq_some_iff.mp b
 exact (List.getElem_inj hN).mp (e1.trans e2.symm)
theorem uK {M:Model} {A:Around} {E:Value->Shared->Prop} {i:Nat} {x:Str} {v:V} {u:Value} {Q:Unit->Shared->Prop} (I:Inv X pins σ H s) (hN:X.N.Nodup) (hi:X.N[i]? = some x) (hx:Loc X.env.scope x) (r:RelV v u)
  (h:∀ s',Inv X pins (σ.set i (some v)) H s'->(∃ a,Heap.SameBut a s.heap s'.heap∧(a=X.env.locals∨X.env.cells.lookup x=some a))->Q () s') (hf:X.fn x=true∨X.env.scope.names.lookup x=some .local:=by first | exact .inl rfl | exact .inr rfl | assumption):wpAny M A (storeName X.env x u) Q E s:=by
 obtain ⟨m,hn,hl⟩:=id I.loc
 have hcls:(X.env.scope.kind == .class||(X.env.scope.kind == .module&&X.env.locals != X.env.globals))=false:=by rw [I.ok.kind];rfl
 have hiσ : i < σ.length:=by rw [I.len];exact (List.getElem?_eq_some_iff.mp hi).1
 have cne:=I.cne
 have tracked:∀ {a:Addr} {h':Heap},(∃ o,s.heap.get? a=some o∧H a=none)->Heap.SameBut a s.heap h'->HOk X.prog X.w H h':=fun {a h'} ha hs b ob e=>by
  obtain ⟨_,_,hfree⟩:=ha
  refine (I.hok b ob e).stay (fun c w' hc q=>(hs.2 c ?_).trans q) (fun _ q=>q) fun _ _ q=>q
  rintro rfl
  rcases hc with rfl | hc
  ·rw [hfree] at e;cases e
  ·rw [hfree] at hc;cases hc
 rcases hx with hk | hk
 ·refine wpAny_storeName_local hk hn (fun h' hn' hs=>?_) hcls
  obtain ⟨oL,_,_,hoL,_⟩:=id hn
  refine h _ ⟨I.ok,I.os,I.bare,⟨fun b o e n hb hx=>?_,fun b o e n hb hx=>?_,I.base.free,fun b o e hx=>?_,I.base.tups,I.base.frzs,I.base.tbls⟩,⟨_,hn',fun j y v' e1 e2 e3=>?_⟩,fun y c e=>?_,I.free,I.freeC,fun p hp=>?_,tracked ⟨oL,hoL,I.free⟩ hs,by simpa using I.len⟩ ⟨_,hs,.inl rfl⟩
  ·exact (hs.2 b (Nat.ne_of_lt (Nat.lt_of_lt_of_le (Heap.lt_size e) I.ok.above))).trans (I.base.keep b o e n hb hx)
  ·obtain ⟨sl,e1⟩:=I.base.slot b o e n hb hx
   exact ⟨sl,(hs.2 b (Nat.ne_of_lt (Nat.lt_of_lt_of_le (Heap.lt_size e) I.ok.above))).trans e1⟩
  ·obtain ⟨o',e1⟩:=I.base.there b o e hx
   exact ⟨o',(hs.2 b (Nat.ne_of_lt (Nat.lt_of_lt_of_le (Heap.lt_size e) I.ok.above))).trans e1⟩
  ·by_cases hj:j=i
   ·subst hj
    rw [hi] at e1;cases e1
    rw [List.getElem?_set_self hiσ] at e2
    cases e2
    exact ⟨u,r,.inl ⟨hk,by simp⟩⟩
   ·rw [List.getElem?_set_ne (Ne.symm hj)] at e2
    obtain ⟨u',r',q⟩:=hl j y v' e1 e2 e3
    refine ⟨u',r',?_⟩
    rcases q with ⟨k,e⟩ | ⟨k,c,e,z⟩
    ·refine .inl ⟨k,?_⟩
     have:y≠x:=fun e=>hj (xT hN e1 (e ▸ hi))
     simp [this,e]
    ·exact .inr ⟨k,c,e,z.sameBut hs (cne y c e)⟩
  ·obtain ⟨w',z⟩:=I.cell y c e
   exact ⟨w',z.sameBut hs (cne y c e)⟩
  ·obtain ⟨e,n,ne,nf,d⟩:=I.pin p hp
   exact ⟨(hs.2 p.1 ne).trans e,n,ne,nf,d⟩
 ·have hfn:X.fn x=true:=by
   rcases hf with z | z
   ·exact z
   ·rw [z] at hk;cases hk
  obtain ⟨c,hc⟩:=I.ok.has x (.inl hk)
  obtain ⟨w',z⟩:=I.cell x c hc
  refine wpAny_storeName_cell I.ok.kind hk hc z (fun h' hc' hs=>?_)
  obtain ⟨oc,hoc,hocd⟩:=id z
  refine h { s with heap:=h' } ⟨I.ok,I.os,I.bare,⟨fun b o e n hb hx=>?_,fun b o e n hb hx=>?_,I.base.free,fun b o e hx=>?_,I.base.tups,I.base.frzs,I.base.tbls⟩,⟨m,hn.sameBut hs (Ne.symm (cne x c hc)),fun j y v' e1 e2 e3=>?_⟩,fun y c' e=>?_,I.free,I.freeC,fun p hp=>?_,tracked ⟨oc,hoc,I.freeC x c hc⟩ hs,by simpa using I.len⟩ ⟨c,hs,.inr hc⟩
  ·exact (hs.2 b (Nat.ne_of_lt (Nat.lt_of_lt_of_le (Heap.lt_size e) (I.ok.cab x c hfn hc)))).trans (I.base.keep b o e n hb hx)
  ·obtain ⟨sl,e1⟩:=I.base.slot b o e n hb hx
   exact ⟨sl,(hs.2 b (Nat.ne_of_lt (Nat.lt_of_lt_of_le (Heap.lt_size e) (I.ok.cab x c hfn hc)))).trans e1⟩
  ·obtain ⟨o',e1⟩:=I.base.there b o e hx
   exact ⟨o',(hs.2 b (Nat.ne_of_lt (Nat.lt_of_lt_of_le (Heap.lt_size e) (I.ok.cab x c hfn hc)))).trans e1⟩
  ·by_cases hj:j=i
   ·subst hj
    rw [hi] at e1;cases e1
    rw [List.getElem?_set_self hiσ] at e2
    cases e2
    exact ⟨u,r,.inr ⟨.inl hk,c,hc,hc'⟩⟩
   ·rw [List.getElem?_set_ne (Ne.symm hj)] at e2
    obtain ⟨u',r',q⟩:=hl j y v' e1 e2 e3
    refine ⟨u',r',?_⟩
    rcases q with q | ⟨k,c',e,z'⟩
    ·exact .inl q
    ·refine .inr ⟨k,c',e,z'.sameBut hs ?_⟩
     rintro rfl
     exact hj (xT hN e1 (I.ok.inj _ _ _ e hc ▸ hi))
  ·by_cases hcc:c'=c
   ·subst hcc;exact ⟨_,hc'⟩
   ·obtain ⟨w2,z2⟩:=I.cell y c' e
    exact ⟨w2,z2.sameBut hs hcc⟩
  ·obtain ⟨e,n,ne,nf,d⟩:=I.pin p hp
   refine ⟨(hs.2 p.1 ?_).trans e,n,ne,nf,d⟩
   intro q
   rw [q,hoc] at e
   have q':oc=p.2:=Option.some.inj e
   exact d w' (by rw [← q'];exact hocd)
theorem yC {M:Model} {A:Around} {E:Value->Shared->Prop} {i:Nat} {x:Str} {v:V} {u:Value} {Q:Unit->Shared->Prop} (I:Inv X pins σ H s) (hN:X.N.Nodup) (hi:X.N[i]? = some x) (hx:Loc X.env.scope x) (r:RelV v u)
  (h:∀ s',Inv X pins (σ.set i (some v)) H s'->Q () s') (hf:X.fn x=true∨X.env.scope.names.lookup x=some .local:=by first | exact .inl rfl | exact .inr rfl | assumption):wpAny M A (storeName X.env x u) Q E s:=
 uK I hN hi hx r (fun s' I' _=>h s' I') hf
theorem Inv.call' {s':Shared} {ch:List Addr} (I:Inv X pins σ H s) (ho:s'.os=s.os) (u:Un (frs X.stack) ch H H' s.heap s'.heap) (hok:HOk X.prog X.w H' s'.heap) (hg:AllBare s'.gens)
  (hch:∀ b∈ch,(b∈X.ex∨X.s₀.heap.objs.size<=b)∧b≠X.env.locals∧(∀ x c,X.env.cells.lookup x=some c->c≠b) ∧ ∀ p∈X.pn++pins,p.1≠b):Inv X pins σ H' s':=by
 obtain ⟨h',g',d',t',o'⟩:=s'
 have e:o'=s.os:=ho
 subst e
 exact I.call (g':=g') (t':=t') (d':=d') u hok hg hch
end
abbrev XK:=Value->Option Addr->Hp->Prop
abbrev St:=List (Option V)
abbrev VK:=V->Hp->Prop
abbrev TE:=St->Hp->VK->Prop
abbrev TT:=St->Hp->(Bool->Hp->Prop)->Prop
abbrev TA:=St->Hp->(List V->Hp->Prop)->Prop
structure Ends where
 nx:St->Hp->Prop
 rt:VK
 bk:St->Hp->Prop:=fun _ _=>False
 ct:St->Hp->Prop:=fun _ _=>False
abbrev TS:=Ends->St->Hp->Prop
def EP (X:Cx) (pins:List (Addr×Obj)) (σ : St) (Q:VK) (u:Value) (s':Shared):Prop:=∃ v H',Inv X pins σ H' s'∧RelV v u∧Q v H'
def TP (X:Cx) (pins:List (Addr×Obj)) (σ : St) (Q:Bool->Hp->Prop) (b:Bool) (s':Shared):Prop:=∃ H',Inv X pins σ H' s'∧Q b H'
def AP (X:Cx) (pins:List (Addr×Obj)) (σ : St) (Q:List V->Hp->Prop) (us:List Value) (s':Shared):Prop:=∃ vs H',Inv X pins σ H' s'∧Vals vs us∧Q vs H'
def SP (X:Cx) (pins:List (Addr×Obj)) (D:Ends) (f:Flow) (s':Shared):Prop:=
 match f with
 | .next=>∃ σ' H',Inv X pins σ' H' s'∧D.nx σ' H'
 | .brk=>∃ σ' H',Inv X pins σ' H' s'∧D.bk σ' H'
 | .cont=>∃ σ' H',Inv X pins σ' H' s'∧D.ct σ' H'
 | .ret u=>∃ v σ' H',Inv X pins σ' H' s'∧RelV v u∧D.rt v H'
def PE (X:Cx) (e:Expr) (t:TE):Prop:=
 ∀ (pins:List (Addr×Obj)) (s:Shared) (σ : St) (H:Hp) (Q:VK),Inv X pins σ H s->t σ H Q->wpAny (model X.prog X.w) X.A (eval e X.env) (EP X pins σ Q) X.xe s
def PT (X:Cx) (e:Expr) (t:TT):Prop:=
 ∀ (pins:List (Addr×Obj)) (s:Shared) (σ : St) (H:Hp) (Q:Bool->Hp->Prop),Inv X pins σ H s->t σ H Q->wpAny (model X.prog X.w) X.A (isTrue e X.env (eval e X.env)) (TP X pins σ Q) X.xe s
def PW (X:Cx) (e:Expr) (t:TT):Prop:=
 ∀ (whole:Sem Value) (pins:List (Addr×Obj)) (s:Shared) (σ : St) (H:Hp) (Q:Bool->Hp->Prop),Inv X pins σ H s->t σ H Q->wpAny (model X.prog X.w) X.A (isTrue e X.env whole) (TP X pins σ Q) X.xe s
theorem PW.pt {X:Cx} {e:Expr} {t:TT} (h:PW X e t):PT X e t:=h _
def PA (X:Cx) (es:List Expr) (t:TA):Prop:=
 ∀ (pos:Pos) (pins:List (Addr×Obj)) (s:Shared) (σ : St) (H:Hp) (Q:List V->Hp->Prop),Inv X pins σ H s->t σ H Q->wpAny (model X.prog X.w) X.A (spliced (backTo pos (starEach es X.env))) (AP X pins σ Q) X.xe s
def PS (X:Cx) (st:Stmt) (t:TS):Prop:=
 ∀ (pins:List (Addr×Obj)) (s:Shared) (σ : St) (H:Hp) (D:Ends),Inv X pins σ H s->t D σ H->wpAny (model X.prog X.w) X.A (exec st X.env) (SP X pins D) X.xe s
def PSs (X:Cx) (st:List Stmt) (t:TS):Prop:=
 ∀ (pins:List (Addr×Obj)) (s:Shared) (σ : St) (H:Hp) (D:Ends),Inv X pins σ H s->t D σ H->wpAny (model X.prog X.w) X.A (execs st X.env) (SP X pins D) X.xe s
theorem thn {α : Type} {t:Sem α} {Q Q' : α -> Shared->Prop} {M:Model} {A:Around} {E:Value->Shared->Prop} {s:Shared} (h:wpAny M A t Q E s) (hQ:∀ a s,Q a s->Q' a s):wpAny M A t Q' E s:=wpAny_mono h hQ fun _ _ x=>x
end L2
namespace L2
open PySem PySem.Spec PyProof.Rows
section
variable {X:Cx}
def GZ (i:Nat):TE:=fun σ H Q=>∃ v,σ[i]? = some (some v)∧Q v H
def tC (v:V):TE:=fun _ H Q=>Q v H
theorem pI {i:Nat} {x:Str} {pos:Pos} (hN:X.N[i]? = some x) (hv:Vis X.env.scope x) (hd:(x==("__debug__" : Str))=false:=by decide) (hcd:(x==("__classdict__" : Str))=false:=by decide):PE X (.Name x pos) (GZ i):=by
 intro pins s σ H Q I h
 obtain ⟨v,e,h⟩:=h
 obtain ⟨m,hn,hl⟩:=I.loc
 obtain ⟨u,r,l⟩:=hl i x v hN e hv
 have fin:EP X pins σ Q u s:=⟨v,H,I,r,h⟩
 rcases l with ⟨hk,hm⟩ | ⟨hk,c,hc,hcell⟩
 ·exact wpAny_Name (wpAny_loadName_local I.ok.kind hk hn hm fin) hd
 ·rcases hk with hk | hk
  ·exact wpAny_Name (wpAny_loadName_cell I.ok.kind hk hc hcell fin) hd
  ·exact wpAny_Name (wpAny_loadName_free I.ok.kind hk hc hcell fin hcd) hd
theorem Gn {i j pos}:PE X (.Constant (.int i) j pos) (tC (.int i)):=fun _ _ _ H _ I h=>wpAny_Constant_int ⟨.int i,H,I.tok _,⟨_,rfl⟩,h⟩
theorem JX {b j pos}:PE X (.Constant (.bool b) j pos) (tC (.bl b)):=fun _ _ _ H _ I h=>Constant_bool ⟨.bl b,H,I,rfl,h⟩
theorem Mp {j pos}:PE X (.Constant .none j pos) (tC .non):=fun _ _ _ H _ I h=>Constant_none ⟨.non,H,I,rfl,h⟩
theorem Ms {x j pos}:PE X (.Constant (.str x) j pos) (tC (.str x)):=fun _ _ _ H _ I h=>Calls.Constant_str ⟨.str x,H,I.tok _,⟨_,rfl⟩,h⟩
def Gl (X:Cx) (x:Str):Prop:=X.env.kindOf x=some .globalImplicit
theorem HQ {E:Value->Shared->Prop} {pins:List (Addr×Obj)} {s:Shared} {σ : St} {H:Hp} {x:Str} {u:Value} {pos:Pos} {Q:Value->Shared->Prop} (I:Inv X pins σ H s) (hg:Gl X x) (hm:X.mg x=some u) (h:Q u s)
  (hd:(x==("__debug__" : Str))=false:=by decide):wpAny (model X.prog X.w) X.A (eval (.Name x pos) X.env) Q E s:=
 Calls.Name_function_global I.ok.kind hg (Calls.loadGlobal_global (by rw [I.ok.glob];exact I.mod.glob.keeps I.bk) hm h) hd
theorem kI {E:Value->Shared->Prop} {pins:List (Addr×Obj)} {s:Shared} {σ : St} {H:Hp} {x:Str} {u:Value} {pos:Pos} {Q:Value->Shared->Prop} (I:Inv X pins σ H s) (hg:Gl X x) (hm:X.mg x=none) (hv:bootBuiltins x=some u) (h:Q u s)
  (hn:x ≠ "__name__":=by decide) (hd:(x==("__debug__" : Str))=false:=by decide):wpAny (model X.prog X.w) X.A (eval (.Name x pos) X.env) Q E s:=by
 obtain ⟨mb,h1,h2⟩:=I.mod.blt
 exact Calls.Name_function_global I.ok.kind hg (Calls.loadGlobal_builtin (by rw [I.ok.glob];exact I.mod.glob.keeps I.bk) hm (by rw [I.ok.blt];exact h1.keeps I.bk) ((h2 x hn).trans hv) h) hd
theorem Ip {x:Str} {v:V} {u:Value} {pos:Pos} (hg:Gl X x) (hm:X.mg x=none) (hv:bootBuiltins x=some u) (r:RelV v u) (hn:x ≠ "__name__":=by decide) (hd:(x==("__debug__" : Str))=false:=by decide):PE X (.Name x pos) (tC v):=
 fun _ _ _ H _ I h=>kI I hg hm hv ⟨v,H,I,r,h⟩ hn hd
variable {a b:Expr} {ta tb:TE} {pos:Pos}
variable {tA tB':TT} {rest:List Expr}
def QW (t u:TT):TT:=fun σ H Q=>t σ H fun c H1=>if c=true then u σ H1 Q else Q false H1
def tOr (t u:TT):TT:=fun σ H Q=>t σ H fun c H1=>if c=true then Q true H1 else u σ H1 Q
def Rc (t:TT):TT:=fun σ H Q=>t σ H fun c H1=>Q (!c) H1
theorem Jg (ha:PT X a tA):PW X (.BoolOp .And [a] pos) tA:=by
 intro wh pins s σ H Q I h
 refine isTrue_and (thn (ha pins s σ H Q I h) fun c s1 e=>?_)
 cases c with
 | true=>exact isTrue_and_nil e
 | false=>exact e
theorem MJ (ha:PT X a tA):PW X (.BoolOp .Or [a] pos) tA:=by
 intro wh pins s σ H Q I h
 refine isTrue_or (thn (ha pins s σ H Q I h) fun c s1 e=>?_)
 cases c with
 | false=>exact isTrue_or_nil e
 | true=>exact e
theorem MF (ha:PT X a tA) (hb:PW X (.BoolOp .And (b :: rest) pos) tB'):PW X (.BoolOp .And (a :: b :: rest) pos) (QW tA tB'):=by
 intro wh pins s σ H Q I h
 refine isTrue_and (thn (ha pins s σ H _ I h) fun c s1 ⟨H1,I1,q1⟩=>?_)
 cases c with
 | true=>exact hb wh pins s1 σ H1 Q I1 q1
 | false=>exact ⟨H1,I1,q1⟩
theorem OJ (ha:PT X a tA) (hb:PW X (.BoolOp .Or (b :: rest) pos) tB'):PW X (.BoolOp .Or (a :: b :: rest) pos) (tOr tA tB'):=by
 intro wh pins s σ H Q I h
 refine isTrue_or (thn (ha pins s σ H _ I h) fun c s1 ⟨H1,I1,q1⟩=>?_)
 cases c with
 | true=>exact ⟨H1,I1,q1⟩
 | false=>exact hb wh pins s1 σ H1 Q I1 q1
theorem Mz (ha:PT X a tA):PT X (.UnaryOp .Not a pos) (Rc tA):=by
 intro pins s σ H Q I h
 exact isTrue_not (ha pins s σ H (fun c H1=>Q (!c) H1) I h)
def Qh (ta tb:TE):TE:=fun σ H Q=>ta σ H fun x H1=>∃ c,x = .bl c∧if c=true then tb σ H1 Q else Q (.bl false) H1
def Qn (ta:TE):TE:=fun σ H Q=>ta σ H fun x H1=>∃ c,x = .bl c∧Q (.bl (!c)) H1
theorem Mr {op} {t:TE} (h:PE X a t):PE X (.BoolOp op [a] pos) t:=fun pins s σ H Q I hw=>BoolOp_one (h pins s σ H Q I hw)
theorem Ml (ha:PE X a ta) (hb:PE X (.BoolOp .And (b :: rest) pos) tb):PE X (.BoolOp .And (a :: b :: rest) pos) (Qh ta tb):=by
 intro pins s σ H Q I h
 refine BoolOp_and (thn (ha pins s σ H _ I h) fun v s1 ⟨x,H1,I1,r1,q1⟩=>?_)
 obtain ⟨c,rfl,q1⟩:=q1
 cases r1
 refine wpAny_truthy_bool ?_
 cases c with
 | true=>exact hb pins s1 σ H1 Q I1 q1
 | false=>exact ⟨.bl false,H1,I1,rfl,q1⟩
theorem Mq (ha:PE X a ta):PE X (.UnaryOp .Not a pos) (Qn ta):=by
 intro pins s σ H Q I h
 refine UnaryOp_ (thn (ha pins s σ H _ I h) fun v s1 ⟨x,H1,I1,r1,q1⟩=>?_)
 obtain ⟨c,rfl,q1⟩:=q1
 cases r1
 exact not_of (wpAny_truthy_bool ⟨.bl (!c),H1,I1,rfl,q1⟩)
def tIf (t:TT) (ta tb:TE):TE:=fun σ H Q=>t σ H fun c H1=>if c=true then ta σ H1 Q else tb σ H1 Q
theorem Gm {c:Expr} (hc:PT X c tA) (ha:PE X a ta) (hb:PE X b tb):PE X (.IfExp c a b pos) (tIf tA ta tb):=by
 intro pins s σ H Q I h
 refine wpAny_IfExp (thn (hc pins s σ H _ I h) fun d s1 ⟨H1,I1,q1⟩=>?_)
 cases d with
 | true=>exact ha pins s1 σ H1 Q I1 q1
 | false=>exact hb pins s1 σ H1 Q I1 q1
end
end L2
namespace L2
open PySem PySem.Spec PyProof.Rows
def SqL (K:PySem.W.Frag) (H:Hp) (a:Addr) (xs:List V):Prop:=
 Rd H a (.lst xs) ∨
  ∃ (o:Obj) (its:Array Value) (n:Nat),K.lookup a=some o∧o.cls = .type "list" ∧ o.dict=none∧o.data = .seq its n∧its.size<=sizeLine∧Vals xs its.toList
def SqT (K:PySem.W.Frag) (H:Hp) (a:Addr) (xs:List V):Prop:=
 Rd H a (.tup xs) ∨
  ∃ (o:Obj) (its:Array Value) (n:Nat),K.lookup a=some o∧o.cls = .type "tuple" ∧ o.data = .seq its n∧its.size<=sizeLine∧Vals xs its.toList
def QH:Value->Option V
 | .none=>some .non
 | .bool b=>some (.bl b)
 | .int i _=>some (.int i)
 | .str x _=>some (.str x)
 | .bytes b _=>some (.byt b)
 | .float b _=>some (.flt b)
 | .ref a=>some (.ref a)
 | .type n=>some (.ty n)
 | _=>none
theorem RelV.abs {x:V} {u:Value} (r:RelV x u):QH u=some x:=by
 cases x with
 | non=>cases r;rfl
 | bl _=>cases r;rfl
 | int _=>obtain ⟨t,rfl⟩:=r;rfl
 | str _=>obtain ⟨t,rfl⟩:=r;rfl
 | byt _=>obtain ⟨t,rfl⟩:=r;rfl
 | flt _=>obtain ⟨t,rfl⟩:=r;rfl
 | ref _=>cases r;rfl
 | ty _=>cases r;rfl
theorem RelV.inj {x y:V} {u:Value} (r:RelV x u) (q:RelV y u):x=y:=Option.some.inj (r.abs.symm.trans q.abs)
theorem Vals.inj:∀ {xs ys:List V} {us:List Value},Vals xs us->Vals ys us->xs=ys
 | _,_,_,.nil,.nil=>rfl
 | _,_,_,.cons r t,.cons r' t'=>by rw [r.inj r',Vals.inj t t']
section
variable {X:Cx} {pins:List (Addr×Obj)} {σ : St} {H:Hp} {s:Shared} {a:Addr} {xs ys:List V}
theorem SqL.of {K:PySem.W.Frag} (h:H a=some (.lst xs)):SqL K H a xs:=.inl (.inl h)
theorem SqT.of {K:PySem.W.Frag} (h:H a=some (.tup xs)):SqT K H a xs:=.inl (.inl h)
theorem Inv.list (I:Inv X pins σ H s) (h:SqL X.K H a xs):∃ its:List Value,Vals xs its∧PlainL s.heap a its.toArray∧xs.length<=sizeLine:=by
 rcases h with h | ⟨o,its,n,hk,hc,hd,hs,hz,r⟩
 ·obtain ⟨z,its,n,r,e⟩:=h.ok I.hok
  exact ⟨its,r,⟨_,n,e,rfl,rfl,rfl⟩,z⟩
 ·refine ⟨its.toList,r,⟨o,n,I.kIn a o hk,hc,hd,by simpa using hs⟩,?_⟩
  have e:=r.length
  simp only [Array.length_toList] at e
  omega
theorem Inv.tuple (I:Inv X pins σ H s) (h:SqT X.K H a xs):∃ its:List Value,Vals xs its∧IsTup s.heap a its.toArray∧xs.length<=sizeLine:=by
 rcases h with h | ⟨o,its,n,hk,hc,hs,hz,r⟩
 ·obtain ⟨z,its,r,p⟩:=h.ok I.hok
  exact ⟨its,r,p,z⟩
 ·refine ⟨its.toList,r,⟨o,I.kIn a o hk,hc,n,by simpa using hs⟩,?_⟩
  have e:=r.length
  simp only [Array.length_toList] at e
  omega
theorem Inv.list_inj (I:Inv X pins σ H s) (h:SqL X.K H a xs) (h':SqL X.K H a ys):xs=ys:=by
 obtain ⟨its,r,⟨o,n,e,_,_,d⟩,_⟩:=I.list h
 obtain ⟨its',r',⟨o',n',e',_,_,d'⟩,_⟩:=I.list h'
 rw [e] at e';cases e'
 rw [d] at d'
 injection d' with d1 _
 have:its=its':=by simpa using congrArg Array.toList d1
 subst this
 exact r.inj r'
theorem Inv.tuple_inj (I:Inv X pins σ H s) (h:SqT X.K H a xs) (h':SqT X.K H a ys):xs=ys:=by
 obtain ⟨its,r,⟨o,e,_,n,d⟩,_⟩:=I.tuple h
 obtain ⟨its',r',⟨o',e',_,n',d'⟩,_⟩:=I.tuple h'
 rw [e] at e';cases e'
 rw [d] at d'
 injection d' with d1 _
 have:its=its':=by simpa using congrArg Array.toList d1
 subst this
 exact r.inj r'
end
abbrev Cx.wish (X:Cx) (E:Value->Shared->Prop):Cx:={ X with xe:=E }
abbrev Cx.nox (X:Cx):Cx:=X.wish fun _ _=>False
theorem Cx.Ok.wish {X:Cx} (ok:X.Ok) (E:Value->Shared->Prop):(X.wish E).Ok:=
 ⟨ok.mod,ok.kind,ok.glob,ok.blt,ok.above,ok.inj,ok.has,ok.cab,ok.hd,ok.frames,ok.stk,ok.exf,ok.bs,ok.bsz,ok.noex,ok.exfs,ok.funs,ok.frf⟩
theorem Cx.Ok.unwish {X:Cx} {E:Value->Shared->Prop} (ok:(X.wish E).Ok):X.Ok:=
 ⟨ok.mod,ok.kind,ok.glob,ok.blt,ok.above,ok.inj,ok.has,ok.cab,ok.hd,ok.frames,ok.stk,ok.exf,ok.bs,ok.bsz,ok.noex,ok.exfs,ok.funs,ok.frf⟩
section
variable {X:Cx} {pins:List (Addr×Obj)} {σ : St} {H:Hp} {s:Shared} {E:Value->Shared->Prop}
theorem Inv.wish (I:Inv X pins σ H s) (E:Value->Shared->Prop):Inv (X.wish E) pins σ H s:=⟨I.ok.wish E,I.os,I.bare,I.base,I.loc,I.cell,I.free,I.freeC,I.pin,I.hok,I.len⟩
theorem Inv.unwish (I:Inv (X.wish E) pins σ H s):Inv X pins σ H s:=⟨I.ok.unwish,I.os,I.bare,I.base,I.loc,I.cell,I.free,I.freeC,I.pin,I.hok,I.len⟩
theorem SP.unwish {D:Ends} {f:Flow} {s':Shared} (h:SP (X.wish E) pins D f s'):SP X pins D f s':=by
 cases f with
 | next=>obtain ⟨σ',H',I,q⟩:=h;exact ⟨σ',H',I.unwish,q⟩
 | brk=>obtain ⟨σ',H',I,q⟩:=h;exact ⟨σ',H',I.unwish,q⟩
 | cont=>obtain ⟨σ',H',I,q⟩:=h;exact ⟨σ',H',I.unwish,q⟩
 | ret u=>obtain ⟨v,σ',H',I,r,q⟩:=h;exact ⟨v,σ',H',I.unwish,r,q⟩
theorem PE.nox {e:Expr} {t:TE} (h:PE X.nox e t):PE X e t:=fun pins s σ H Q I hw=>
 wpAny_mono (h pins s σ H Q (I.wish _) hw) (fun _ _ ⟨v,H',I',r,q⟩=>⟨v,H',I'.unwish,r,q⟩) fun _ _ z=>False.elim z
theorem PT.nox {e:Expr} {t:TT} (h:PT X.nox e t):PT X e t:=fun pins s σ H Q I hw=>
 wpAny_mono (h pins s σ H Q (I.wish _) hw) (fun _ _ ⟨H',I',q⟩=>⟨H',I'.unwish,q⟩) fun _ _ z=>False.elim z
theorem PSs.nox {st:List Stmt} {t:TS} (h:PSs X.nox st t):PSs X st t:=fun pins s σ H D I hw=>
 wpAny_mono (h pins s σ H D (I.wish _) hw) (fun _ _ q=>q.unwish) fun _ _ z=>False.elim z
end
section
variable {X:Cx} {st:Stmt} {rest:List Stmt} {t u:TS} {e:Expr} {te:TE} {pos:Pos}
def Qm:TS:=fun D σ H=>D.nx σ H
def Rg (t u:TS):TS:=fun D σ H=>t { D with nx:=u D } σ H
theorem Jb:PSs X [] Qm:=fun _ _ σ H _ I h=>wpAny_execs_nil ⟨σ,H,I,h⟩
theorem Gw (h1:PS X st t) (h2:PSs X rest u):PSs X (st :: rest) (Rg t u):=by
 intro pins s σ H D I h
 refine wpAny_execs_cons (thn (h1 pins s σ H { D with nx:=u D } I h) fun f s1 q=>?_)
 cases f with
 | next=>
  obtain ⟨σ',H',I',q⟩:=q
  exact h2 pins s1 σ' H' D I' q
 | ret v=>exact q
 | brk=>exact q
 | cont=>exact q
theorem Jc (h1:PS X st t):PSs X [st] t:=by
 intro pins s σ H D I h
 refine wpAny_execs_cons (thn (h1 pins s σ H D I h) fun f s1 q=>?_)
 cases f with
 | next=>exact wpAny_execs_nil q
 | ret v=>exact q
 | brk=>exact q
 | cont=>exact q
theorem Inv.quiet {pins:List (Addr×Obj)} {σ : St} {H:Hp} {s:Shared} (I:Inv X pins σ H s):interactive X.env=false:=by simp [interactive,I.ok.kind]
def Ql (te:TE):TS:=fun D σ H=>te σ H fun _ H1=>D.nx σ H1
theorem Ja (he:PE X e te) (hs:swapsWith e none pos.line X.env=pure false:=by rfl):PS X (.Expr e pos) (Ql te):=by
 intro pins s σ H D I h
 exact wpAny_Expr_any (thn (he pins s σ H _ I h) fun v s1 ⟨x,H1,I1,r1,q1⟩=>⟨σ,H1,I1,q1⟩) I.quiet hs
def Rf (te:TE):TS:=fun D σ H=>te σ H D.rt
theorem Gv (he:PE X e te):PS X (.Return (some e) pos) (Rf te):=by
 intro pins s σ H D I h
 exact wpAny_Return_some (thn (he pins s σ H _ I h) fun v s1 ⟨x,H1,I1,r1,q1⟩=>⟨x,σ,H1,I1,r1,q1⟩)
def QZ (c:TT) (t u:TS):TS:=fun D σ H=>c σ H fun b H1=>if b=true then t D σ H1 else u D σ H1
theorem OD {c:Expr} {a b:List Stmt} {tc:TT} (hc:PT X c tc) (ha:PSs X a t) (hb:PSs X b u):PS X (.If c a b pos) (QZ tc t u):=by
 intro pins s σ H D I h
 refine wpAny_If (thn (hc pins s σ H _ I h) fun d s1 ⟨H1,I1,q1⟩=>?_)
 cases d with
 | true=>exact ha pins s1 σ H1 D I1 q1
 | false=>exact hb pins s1 σ H1 D I1 q1
end
abbrev TG:=V->St->Hp->(St->Hp->Prop)->Prop
abbrev TGs:=List V->St->Hp->(St->Hp->Prop)->Prop
def PG (X:Cx) (target:Expr) (t:TG):Prop:=
 ∀ (pins:List (Addr×Obj)) (s:Shared) (σ : St) (H:Hp) (v:V) (u:Value) (Q:St->Hp->Prop),Inv X pins σ H s->RelV v u->t v σ H Q ->
  wpAny (model X.prog X.w) X.A (assign target X.env u) (fun _ s'=>∃ σ' H',Inv X pins σ' H' s'∧Q σ' H') X.xe s
def PGs (X:Cx) (ts:List Expr) (t:TGs):Prop:=
 ∀ (pins:List (Addr×Obj)) (s:Shared) (σ : St) (H:Hp) (vs:List V) (us:List Value) (Q:St->Hp->Prop),Inv X pins σ H s->Vals vs us->t vs σ H Q ->
  wpAny (model X.prog X.w) X.A (assignInOrder ((assignEach ts X.env).map (·.2)) us) (fun _ s'=>∃ σ' H',Inv X pins σ' H' s'∧Q σ' H') X.xe s
abbrev Ke:=V->V->V->Hp->(Hp->Prop)->Prop
def Ob (X:Cx) (t:Ke):Prop:=
 ∀ (pins:List (Addr×Obj)) (s:Shared) (σ : St) (H:Hp) (o i v:V) (ov iv u:Value) (Q:Hp->Prop),Inv X pins σ H s->RelV o ov->RelV i iv->RelV v u->t o i v H Q ->
  wpAny (model X.prog X.w) X.A (setItem ov iv u) (fun _ s'=>∃ H',Inv X pins σ H' s'∧Q H') X.xe s
section
variable {X:Cx} {pos:Pos}
def Eu (i:Nat):TG:=fun v σ H Q=>Q (σ.set i (some v)) H
theorem Iz {i:Nat} {x:Str} (hN:X.N.Nodup) (hi:X.N[i]? = some x) (hx:Loc X.env.scope x) (hf:X.fn x=true∨X.env.scope.names.lookup x=some .local:=by first | exact .inl rfl | exact .inr rfl | assumption):PG X (.Name x pos) (Eu i):=by
 intro pins s σ H v u Q I r h
 exact wpAny_assign_Name (yC I hN hi hx r (fun s' I'=>⟨_,H,I',h⟩) hf)
def QL:TGs:=fun vs σ H Q=>vs=[]∧Q σ H
def Ol (t:TG) (u:TGs):TGs:=fun vs σ H Q=>∃ v r,vs=v :: r∧t v σ H fun σ' H'=>u r σ' H' Q
theorem IK:PGs X [] QL:=by
 intro pins s σ H vs us Q I r h
 obtain ⟨e,h⟩:=h
 subst e
 cases r
 exact assignInOrder_nil ⟨σ,H,I,h⟩
theorem Gp {e:Expr} {es:List Expr} {t:TG} {u:TGs} (h1:PG X e t) (h2:PGs X es u)
  (hs:(assignEach (e :: es) X.env).map (·.2)=assign e X.env :: (assignEach es X.env).map (·.2):=by rfl):PGs X (e :: es) (Ol t u):=by
 intro pins s σ H vs us Q I r h
 obtain ⟨v,vr,e1,h⟩:=h
 subst e1
 cases r with
 | cons r rr=>
  rw [hs]
  refine assignInOrder_cons (thn (h1 pins s σ H _ _ _ I r h) fun _ s1 ⟨σ1,H1,I1,q1⟩=>?_)
  exact h2 pins s1 σ1 H1 _ _ Q I1 rr q1
def QQ (K:PySem.W.Frag) (n:Nat) (t:TGs):TG:=fun v σ H Q=>∃ a xs,v = .ref a∧SqT K H a xs∧xs.length=n∧t xs σ H Q
theorem Mv {es:List Expr} {k:Nat} {t:TGs} {n:Nat} (hc:X.calm=true) (h:PGs X es t)
  (hn:(assignEach es X.env).length=n:=by rfl) (hst:(assignEach es X.env).findIdx? (·.1)=none:=by rfl):PG X (.Tuple es k pos) (QQ X.K n t):=by
 intro pins s σ H v u Q I r hw
 obtain ⟨a,xs,e1,hq,hl,hw⟩:=hw
 subst e1
 cases r
 obtain ⟨its,rv,ht,hz⟩:=I.tuple hq
 refine assign_Tuple_tuple (I.ok.hd hc) ht (by simp [hn,← hl,rv.length]) hst fun h' hx=>?_
 have I1:Inv X pins σ H { s with heap:=h' }:=I.kept (t':=s.toks) fun b o e=>hx b o (Nat.ne_of_lt (Heap.lt_size e)) e
 exact h pins _ σ H xs _ Q I1 (by simpa using rv) hw
def QM (to ti:TE) (t:Ke):TG:=fun v σ H Q=>to σ H fun o H1=>ti σ H1 fun i H2=>t o i v H2 fun H3=>Q σ H3
theorem Mu {o i:Expr} {to ti:TE} {t:Ke} (ho:PE X o to) (hi:PE X i ti) (hs:Ob X t)
  (ha:∀ v,assign (.Subscript o i pos) X.env v=(do
   let ov ← holding [v] (eval o X.env)
   let iv ← holding [v,ov] (eval i X.env)
   standAt pos
   holding [v,ov,iv] (setItem ov iv v)
   release [v,ov,iv] []):=by intro _;rfl):PG X (.Subscript o i pos) (QM to ti t):=by
 intro pins s σ H v u Q I r h
 rw [ha]
 refine wpAny_bind (wpAny_holding (thn (ho pins s σ H _ I h) fun ov s1 ⟨x,H1,I1,r1,q1⟩=>?_))
 refine wpAny_bind (wpAny_holding (thn (hi pins s1 σ H1 _ I1 q1) fun iv s2 ⟨y,H2,I2,r2,q2⟩=>?_))
 refine wpAny_bind (wpAny_standAt (wpAny_bind (wpAny_holding (thn (hs pins s2 σ H2 x y v ov iv u _ I2 r1 r2 r q2) fun _ s3 ⟨H3,I3,q3⟩=>?_))))
 exact wpAny_release ⟨σ,H3,I3,q3⟩
def Np (te:TE) (g:TG):TS:=fun D σ H=>te σ H fun x H1=>g x σ H1 D.nx
theorem Gu {tg e:Expr} {te:TE} {g:TG} (he:PE X e te) (hg:PG X tg g) (hs:swapsWithSole [tg] e pos.line X.env=pure false:=by rfl) (hw:swappedStores [tg] e X.env=pure none:=by rfl)
  (h1:(assignEach [tg] X.env).map (·.2)=[assign tg X.env]:=by rfl):PS X (.Assign [tg] e pos) (Np te g):=by
 intro pins s σ H D I h
 refine wpAny_Assign_stores (thn (he pins s σ H _ I h) fun v s1 ⟨x,H1,I1,r1,q1⟩=>?_) hs hw
 rw [h1]
 exact thn (hg pins s1 σ H1 x v _ I1 r1 q1) fun _ s2 q=>q
theorem My {i:Nat} {x:Str} {e:Expr} {te:TE} {pos':Pos} (hN:X.N.Nodup) (hi:X.N[i]? = some x) (hx:Loc X.env.scope x) (he:PE X e te) (hs:swapsWith e (some (.Name x pos')) pos.line X.env=pure false:=by rfl) (hf:X.fn x=true∨X.env.scope.names.lookup x=some .local:=by first | exact .inl rfl | exact .inr rfl | assumption) :
  PS X (.Assign [.Name x pos'] e pos) (Np te (Eu i)):=by
 intro pins s σ H D I h
 refine wpAny_Assign_Name (thn (he pins s σ H _ I h) fun v s1 ⟨y,H1,I1,r1,q1⟩=>?_) hs
 exact yC I1 hN hi hx r1 (fun s2 I2=>⟨_,H1,I2,q1⟩) hf
end
section
variable {X:Cx} {pos:Pos}
end
structure It where
 go:Nat->Hp->Prop
 yld:Nat->Hp->V->Hp->Prop
 stop:Nat->Hp->Prop
def qW (X:Cx) (pins:List (Addr×Obj)) (H:Hp) (b:Addr):Prop:=
 H b=none∧b≠X.env.locals∧b ∉ X.fs∧(b∈X.ex∨X.s₀.heap.objs.size<=b)∧(∀ x c,X.env.cells.lookup x=some c->c≠b) ∧ ∀ p∈X.pn++pins,p.1≠b
theorem Inv.fpOk {X:Cx} {pins:List (Addr×Obj)} {σ : St} {H H':Hp} {s:Shared} {b:Addr} (I:Inv X pins σ H s) (hb:s.heap.objs.size<=b) (hn:H' b=none):qW X pins H' b:=by
 refine ⟨hn,Nat.ne_of_gt (Nat.lt_of_lt_of_le I.lt hb),I.nofs hb,.inr (Nat.le_trans I.sz hb),fun x c e z=>?_,fun p hp z=>?_⟩
 ·obtain ⟨v,q⟩:=I.cell x c e
  exact absurd (Nat.lt_of_lt_of_le q.lt (by rw [z];exact hb)) (Nat.lt_irrefl _)
 ·exact absurd (Nat.lt_of_lt_of_le (Heap.lt_size (I.pin p hp).1) (by rw [z];exact hb)) (Nat.lt_irrefl _)
structure Turn (P:Program) (w:World) (K:PySem.W.Frag) (tg:Expr) (J:It) (fp:List Addr) (it:Addr) (tn:Nat->Heap->Prop):Prop where
 mem:it∈fp
 obj:∀ i h,tn i h -> ∀ b∈fp,∃ o,h.get? b=some o ∧ ∀ v,o.data ≠ .cell v
 keep:∀ i h h',tn i h->(∀ b∈fp,∀ o,h.get? b=some o->h'.get? b=some o)->tn i h'
 item:∀ (X:Cx),X.prog=P->X.w=w->X.K=K->X.calm=true -> ∀ (i:Nat) (pins:List (Addr×Obj)) (s:Shared) (σ : St) (H:Hp) (E:Value->Shared->Prop),Inv X pins σ H s->(∀ b∈fp,qW X pins H b)->tn i s.heap->J.go i H ->
  wpAny (model P w) X.A (pyNext (.ref it)) (fun r s1=>∃ u,r=some u ∧
   wpAny (model P w) X.A (letOwnedTupleGo tg (.ref it) u) (fun _ s2=>∃ x H',Inv X pins σ H' s2∧RelV x u∧J.yld i H x H'∧tn (i+1) s2.heap ∧ ∀ b∈fp,H' b=none) E s1) E s
 done:∀ (X:Cx),X.prog=P->X.w=w->X.K=K->X.calm=true -> ∀ (i:Nat) (pins:List (Addr×Obj)) (s:Shared) (σ : St) (H:Hp) (E:Value->Shared->Prop),Inv X pins σ H s->(∀ b∈fp,qW X pins H b)->tn i s.heap->J.stop i H ->
  wpAny (model P w) X.A (pyNext (.ref it)) (fun r s1=>r=none∧Inv X pins σ H s1) E s
 self:∀ (A:Around) (i:Nat) (s:Shared) (Q:Value->Shared->Prop) (E:Value->Shared->Prop),tn i s.heap->Q (.ref it) s->wpAny (model P w) A (pyIter (.ref it)) Q E s
abbrev TI:=St->Hp->(It->Hp->Prop)->Prop
def PIE (X:Cx) (pins:List (Addr×Obj)) (σ : St) (tg:Expr) (R:It->Hp->Prop) (itv:Value) (s2:Shared):Prop:=
 ∃ (it:Addr) (fp:List Addr) (tn:Nat->Heap->Prop) (J:It) (H':Hp),itv = .ref it∧Inv X pins σ H' s2∧Turn X.prog X.w X.K tg J fp it tn∧tn 0 s2.heap∧(∀ b∈fp,qW X pins H' b)∧R J H'
def PI (X:Cx) (tg iter:Expr) (wi:TI):Prop:=
 ∀ (pins:List (Addr×Obj)) (s:Shared) (σ : St) (H:Hp) (R:It->Hp->Prop),Inv X pins σ H s->wi σ H R ->
  wpAny (model X.prog X.w) X.A (eval iter X.env) (fun v s1=>wpAny (model X.prog X.w) X.A (pyIter v) (PIE X pins σ tg R) X.xe s1) X.xe s
theorem Ew {M:Model} {A:Around} {E:Value->Shared->Prop} {s:Shared} {tg:Expr} {it:Addr} {u:Value} {o:Obj} {n:String} {vs:Array Value} {Q:Unit->Shared->Prop} (ho:s.heap.get? it=some o) (hc:o.cls = .type n) (hd:o.data = .fields vs)
  (hn:["enumerate", "zip", "dict_itemiterator", "dict_reverseitemiterator", "odict_iterator", "itertools.zip_longest", "itertools.pairwise"].contains n=false) (hQ:Q () s):wpAny M A (letOwnedTupleGo tg (.ref it) u) Q E s:=by
 unfold letOwnedTupleGo
 cases tg <;> first
  | exact wpAny_pure hQ
  | (cases u <;> first
    | exact wpAny_pure hQ
    | (refine wpAny_bind (wpAny_load ho ?_)
       rw [hc,hd]
       show wpAny M A (if (["enumerate", "zip", "dict_itemiterator", "dict_reverseitemiterator", "odict_iterator", "itertools.zip_longest", "itertools.pairwise"].contains n&&vs[0]? == some (rawInt _))=true then _ else _) Q E s
       rw [if_neg (by intro h;rw [hn,Bool.false_and] at h;cases h)]
       exact wpAny_pure hQ))
def Itl (K:PySem.W.Frag) (a:Addr):It:=
 ⟨fun i H=>∃ xs x,SqL K H a xs∧xs[i]? = some x,fun i H x H'=>H'=H ∧ ∀ xs,SqL K H a xs->xs[i]? = some x,fun i H=>∃ xs,SqL K H a xs∧xs.length<=i⟩
def Itt (K:PySem.W.Frag) (a:Addr):It:=
 ⟨fun i H=>∃ xs x,SqT K H a xs∧xs[i]? = some x,fun i H x H'=>H'=H ∧ ∀ xs,SqT K H a xs->xs[i]? = some x,fun i H=>∃ xs,SqT K H a xs∧xs.length<=i⟩
def Itr (lo:Int) (n:Nat):It:=⟨fun i _=>i<n,fun i H x H'=>H'=H∧x = .int (lo+i),fun i _=>n<=i⟩
theorem Dw {P:Program} {w:World} {K:PySem.W.Frag} {tg:Expr} (a it:Addr):Turn P w K tg (Itl K a) [it] it (fun i h=>h.IsListIter it a i) where
 mem:=by simp
 obj:=fun i h st b hb=>by
  have e:b=it:=by simpa using hb
  subst e
  obtain ⟨o,e,c,d⟩:=st
  exact ⟨o,e,fun v z=>by rw [d] at z;cases z⟩
 keep:=fun i h h' st k=>st.at fun o e=>k it (by simp) o e
 item:=by
  intro X hP hw hK hc i pins s σ H E I hf st hg
  subst hP hw hK
  obtain ⟨xs,x,hq,hx⟩:=hg
  obtain ⟨its,rv,p,hz⟩:=I.list hq
  obtain ⟨u,hu,ru⟩:=rv.get hx
  obtain ⟨f0,f1,f2,f3,f4,f5⟩:=hf it (by simp)
  refine wpAny_pyNext_list_item st p.isList (x:=u) (by simpa using hu) fun h' st' sb=>?_
  have I1:Inv X pins σ H { s with heap:=h' }:=I.turned (t':=s.toks) (fun b o hb e=>(sb.2 b hb).trans e) f0 f1 f3 f4 f5
  obtain ⟨o,e,c,d⟩:=id st'
  exact ⟨u,rfl,Ew (s:={ s with heap:=h' }) e c d (by decide) ⟨x,H,I1,ru,⟨rfl,fun ys hy=>by rw [I.list_inj hy hq];exact hx⟩,st',fun b hb=>(hf b hb).1⟩⟩
 done:=by
  intro X hP hw hK hc i pins s σ H E I hf st hg
  subst hP hw hK
  obtain ⟨xs,hq,hx⟩:=hg
  obtain ⟨its,rv,p,hz⟩:=I.list hq
  obtain ⟨f0,f1,f2,f3,f4,f5⟩:=hf it (by simp)
  have hl:=rv.length
  exact wpAny_pyNext_list_end (I.ok.hd hc) st p.isList (by simp;omega) fun h' eb=>⟨rfl,I.turned (t':=s.toks) (fun b o hb e=>eb b o hb e) f0 f1 f3 f4 f5⟩
 self:=fun _ _ _ _ _ st h=>wpAny_pyIter_listiter st h
theorem zM {P:Program} {w:World} {K:PySem.W.Frag} {tg:Expr} (a it:Addr):Turn P w K tg (Itt K a) [it] it (fun i h=>h.IsTupleIter it a i) where
 mem:=by simp
 obj:=fun i h st b hb=>by
  have e:b=it:=by simpa using hb
  subst e
  obtain ⟨o,e,c,d⟩:=st
  exact ⟨o,e,fun v z=>by rw [d] at z;cases z⟩
 keep:=fun i h h' st k=>st.at fun o e=>k it (by simp) o e
 item:=by
  intro X hP hw hK hc i pins s σ H E I hf st hg
  subst hP hw hK
  obtain ⟨xs,x,hq,hx⟩:=hg
  obtain ⟨its,rv,p,hz⟩:=I.tuple hq
  obtain ⟨u,hu,ru⟩:=rv.get hx
  obtain ⟨f0,f1,f2,f3,f4,f5⟩:=hf it (by simp)
  refine wpAny_pyNext_tuple_item st (show s.heap.IsTuple a its.toArray from p) (x:=u) (by simpa using hu) fun h' st' sb=>?_
  have I1:Inv X pins σ H { s with heap:=h' }:=I.turned (t':=s.toks) (fun b o hb e=>(sb.2 b hb).trans e) f0 f1 f3 f4 f5
  obtain ⟨o,e,c,d⟩:=id st'
  exact ⟨u,rfl,Ew (s:={ s with heap:=h' }) e c d (by decide) ⟨x,H,I1,ru,⟨rfl,fun ys hy=>by rw [I.tuple_inj hy hq];exact hx⟩,st',fun b hb=>(hf b hb).1⟩⟩
 done:=by
  intro X hP hw hK hc i pins s σ H E I hf st hg
  subst hP hw hK
  obtain ⟨xs,hq,hx⟩:=hg
  obtain ⟨its,rv,p,hz⟩:=I.tuple hq
  obtain ⟨f0,f1,f2,f3,f4,f5⟩:=hf it (by simp)
  have hl:=rv.length
  exact wpAny_pyNext_tuple_end (I.ok.hd hc) st (show s.heap.IsTuple a its.toArray from p) (by simp;omega) fun h' eb=>⟨rfl,I.turned (t':=s.toks) (fun b o hb e=>eb b o hb e) f0 f1 f3 f4 f5⟩
 self:=fun _ _ _ _ _ st h=>wpAny_pyIter_tupleiter st h
theorem zL {P:Program} {w:World} {K:PySem.W.Frag} {tg:Expr} (it:Addr) (lo:Int) (n:Nat):Turn P w K tg (Itr lo n) [it] it (fun i h=>IsRangeIter h it (lo+(i:Nat)*1) ((n:Int) - (i:Nat)) 1) where
 mem:=by simp
 obj:=fun i h st b hb=>by
  have e:b=it:=by simpa using hb
  subst e
  exact ⟨_,st,fun v z=>by
   have z':Data.fields _=Data.cell v:=z
   cases z'⟩
 keep:=fun i h h' st k=>k it (by simp) _ st
 item:=by
  intro X hP hw hK hc i pins s σ H E I hf st hg
  subst hP hw hK
  obtain ⟨f0,f1,f2,f3,f4,f5⟩:=hf it (by simp)
  have W:=Walks.range (prog:=X.prog) (w:=X.w) (I.ok.hd hc) it lo 1 n
  refine W.item i s _ _ hg st fun v h' tk hv st' kk=>?_
  obtain ⟨t,rfl⟩:=hv
  have I1:Inv X pins σ H { s with heap:=h',toks:=tk }:=I.turned (fun b o hb e=>kk b o (by simpa using hb) e) f0 f1 f3 f4 f5
  refine ⟨_,rfl,Ew (s:={ s with heap:=h',toks:=tk }) (n:= "range_iterator") st' rfl rfl (by decide) ⟨.int (lo+i),H,I1,⟨t,?_⟩,⟨rfl,rfl⟩,st',fun b hb=>(hf b hb).1⟩⟩
  rw [Int.mul_one]
 done:=by
  intro X hP hw hK hc i pins s σ H E I hf st hg
  subst hP hw hK
  obtain ⟨f0,f1,f2,f3,f4,f5⟩:=hf it (by simp)
  exact wpAny_pyNext_range_end (I.ok.hd hc) st (by have:n<=i:=hg;omega) fun h' eb=>⟨rfl,I.turned (t':=s.toks) (fun b o hb e=>eb b o hb e) f0 f1 f3 f4 f5⟩
 self:=fun _ _ _ _ _ st h=>wpAny_pyIter_rangeiter st h
end L2
namespace L2
open PySem PySem.Spec PyProof.Rows
section
variable {X:Cx} {tg:Expr}
theorem yl {pins:List (Addr×Obj)} {σ : St} {H:Hp} {s:Shared} {R:It->Hp->Prop} {E:Value->Shared->Prop} {lo hi:Int} {t u v:Tok} {tk:Nat} (I:Inv X pins σ H s) (h1 : -(2 ^ 62)<=lo) (h2:lo<2 ^ 62) (h3 : -(2 ^ 62)<=hi) (h4:hi<2 ^ 62)
  (q:R (Itr lo (hi - lo).toNat) H):wpAny (model X.prog X.w) X.A (pyIter (.ref s.heap.objs.size)) (PIE X pins σ tg R) E { s with heap:=s.heap.push { cls:=.type "range",data:=.fields #[.int lo t,.int hi u,.int 1 v] },toks:=tk }:=by
 refine wpAny_pyIter_range (IsRange.new ..) (small_one h1 h2 h3 h4) ?_
 have I1:Inv X pins σ H { s with heap:=s.heap.push { cls:=.type "range",data:=.fields #[.int lo t,.int hi u,.int 1 v] },toks:=tk }:=I.kept fun b o e=>Heap.get?_push_of_some _ e
 refine ⟨(s.heap.push { cls:=.type "range",data:=.fields #[.int lo t,.int hi u,.int 1 v] }).objs.size,[(s.heap.push { cls:=.type "range",data:=.fields #[.int lo t,.int hi u,.int 1 v] }).objs.size],_,_,H,rfl,
  I1.kept (t':=tk) fun b o e=>Heap.get?_push_of_some _ e,zL _ lo (hi - lo).toNat,?_,fun b hb=>?_,q⟩
 ·have e1:lo+((0:Nat):Int)*1=lo:=by simp
  have e2:(((hi - lo).toNat:Nat):Int) - ((0:Nat):Int)=Builtin.Range.rangeSize lo hi 1:=by rw [rangeSize_one];split <;> omega
  show IsRangeIter _ _ (lo+((0:Nat):Int)*1) ((((hi - lo).toNat:Nat):Int) - ((0:Nat):Int)) 1
  rw [e1,e2]
  exact Heap.get?_push_size _ rfl
 ·have e:b=(s.heap.push { cls:=.type "range",data:=.fields #[.int lo t,.int hi u,.int 1 v] }).objs.size:=by simpa using hb
  subst e
  exact I1.fpOk (Nat.le_refl _) (I1.hok.fresh (Nat.le_refl _))
def Oo (ta:TA):TI:=fun σ H R=>ta σ H fun vs H1=>∃ j:Int,vs=[.int j] ∧ -(2 ^ 62)<=j∧j<2 ^ 62∧R (Itr 0 j.toNat) H1
def Oq (ta:TA):TI:=fun σ H R=>ta σ H fun vs H1=>∃ i j:Int,vs=[.int i,.int j]∧(-(2 ^ 62)<=i∧i<2 ^ 62 ∧ -(2 ^ 62)<=j∧j<2 ^ 62)∧R (Itr i (j - i).toNat) H1
theorem Dj {a:Expr} {ta:TA} {p pos:Pos} (hg:Gl X "range") (hm:X.mg "range" = none) (ha:PA X [a] ta) (hs:starEach [a] X.env=[(false,eval a X.env)]:=by rfl):PI X tg (.Call (.Name "range" p) [a] [] pos) (Oo ta):=by
 intro pins s σ H R I h
 refine Call_ (kI I hg hm boot_range (PyProof.Rows.callWith_type1 (thn (ha pos pins s σ H _ I h) fun us s1 ⟨vs,H1,I1,r1,q1⟩=>?_) hs rfl))
 obtain ⟨j,e,q1,q2,q⟩:=q1
 subst e
 cases r1 with
 | cons r rr=>
  cases rr
  obtain ⟨t,rfl⟩:=r
  exact call_range_1 (yl I1 (by omega) (by omega) q1 q2 (by simpa using q))
theorem Dk {a b:Expr} {ta:TA} {p pos:Pos} (hg:Gl X "range") (hm:X.mg "range" = none) (ha:PA X [a,b] ta) (hs:starEach [a,b] X.env=[(false,eval a X.env),(false,eval b X.env)]:=by rfl) (hs2:starEach [b] X.env=[(false,eval b X.env)]:=by rfl) :
  PI X tg (.Call (.Name "range" p) [a,b] [] pos) (Oq ta):=by
 intro pins s σ H R I h
 refine Call_ (kI I hg hm boot_range (PyProof.Rows.callWith_type1 (thn (ha pos pins s σ H _ I h) fun us s1 ⟨vs,H1,I1,r1,q1⟩=>?_) (by rw [hs,hs2]) (by rw [hs2];rfl)))
 obtain ⟨i,j,e,⟨q1,q2,q3,q4⟩,q⟩:=q1
 subst e
 cases r1 with
 | cons r rr=>
  cases rr with
  | cons r' rr=>
   cases rr
   obtain ⟨t,rfl⟩:=r
   obtain ⟨t',rfl⟩:=r'
   exact call_range_2 (yl I1 q1 q2 q3 q4 q)
def QX (wi:TI) (g:TG) (tb:TS):TS:=fun D σ H=>wi σ H fun J H1=>∃ W:Nat->Nat->St->Hp->Prop,(∃ m,W 0 m σ H1) ∧ ∀ i m σ H,W i m σ H ->
 (J.stop i H∧D.nx σ H)∨(J.go i H ∧ ∃ N:St->Hp->Prop,(∀ σ' H',N σ' H' -> ∃ m',m'<m∧W (i+1) m' σ' H') ∧ ∀ x H',J.yld i H x H'->g x σ H' fun σ2 H2=>tb { D with nx:=N,ct:=N,bk:=D.nx } σ2 H2)
def sS (fp:List Addr) (h:Heap):List (Addr×Obj):=fp.filterMap fun b=>(h.get? b).map fun o=>(b,o)
theorem kO {fp:List Addr} {h:Heap} {b:Addr} {o:Obj} (hb:b∈fp) (e:h.get? b=some o):(b,o)∈sS fp h:=List.mem_filterMap.mpr ⟨b,hb,by rw [e];rfl⟩
theorem Dc {fp:List Addr} {h:Heap} {p:Addr×Obj} (hp:p∈sS fp h):p.1∈fp∧h.get? p.1=some p.2:=by
 obtain ⟨b,hb,e⟩:=List.mem_filterMap.mp hp
 cases q:h.get? b with
 | none=>rw [q] at e;cases e
 | some o=>
  rw [q] at e
  have e':(b,o)=p:=Option.some.inj e
  subst e'
  exact ⟨hb,q⟩
theorem Inv.pinned {pins:List (Addr×Obj)} {σ : St} {H:Hp} {s:Shared} {fp:List Addr} (I:Inv X pins σ H s) (hf:∀ b∈fp,qW X pins H b) (ho:∀ b∈fp,∃ o,s.heap.get? b=some o ∧ ∀ v,o.data ≠ .cell v):Inv X (pins++sS fp s.heap) σ H s:=
 I.pins_of fun p hp=>(List.mem_append.mp hp).elim (fun z=>I.pin p (List.mem_append_right _ z)) fun z=>by
  obtain ⟨hb,e⟩:=Dc z
  obtain ⟨f0,f1,f2,_⟩:=hf p.1 hb
  obtain ⟨o,e',d⟩:=ho p.1 hb
  rw [e] at e';cases e'
  exact ⟨e,f0,f1,f2,d⟩
theorem Inv.unpinned {pins pl:List (Addr×Obj)} {σ : St} {H:Hp} {s:Shared} (I:Inv X (pins++pl) σ H s):Inv X pins σ H s:=I.pins_of fun p hp=>I.pin p (List.mem_append_right _ (List.mem_append_left _ hp))
theorem Mw {iter:Expr} {body:List Stmt} {wi:TI} {g:TG} {tb:TS} {pos:Pos} (hp:PassesOwn (model X.prog X.w) X.A X.env X.xe) (hc:X.calm=true) (hi:PI X tg iter wi) (hg:PG X tg g) (hb:PSs X body tb)
  (hs:∀ x,foldedSetIterable iter X.env x=pure x:=by intro _;rfl):PS X (.For tg iter body [] pos) (QX wi g tb):=by
 intro pins s σ H D I h
 refine wpAny_For (thn (hi pins s σ H _ I h) fun v s1 h1=>thn h1 fun itv s2 h2=>?_) hs
 obtain ⟨it,fp,tn,J,H2,e,I2,T,st2,f2,W,⟨m0,w0⟩,turn⟩:=h2
 subst e
 have stat:∀ {H':Hp},(∀ b∈fp,H' b=none) -> ∀ b∈fp,qW X pins H' b:=fun hn b hb=>⟨hn b hb,(f2 b hb).2⟩
 refine codeAny_forLoop_any (fun n s'=>∃ i σ' H',Inv X pins σ' H' s'∧tn i s'.heap∧(∀ b∈fp,H' b=none)∧W i n σ' H') ?_ m0 ⟨0,σ,H2,I2,st2,fun b hb=>(f2 b hb).1,w0⟩
 rintro n s3 ⟨i,σ3,H3,I3,st3,fr3,w3⟩
 rcases turn i n σ3 H3 w3 with ⟨stop,qn⟩ | ⟨go,N,hN,step⟩
 ·refine wpAny_passesOwn hp (thn (T.done X rfl rfl rfl hc i pins s3 σ3 H3 X.xe I3 (stat fr3) st3 stop) fun r s4 ⟨hr,I4⟩=>?_)
  subst hr
  exact wpAny_execs_nil ⟨σ3,H3,I4,qn⟩
 ·refine wpAny_passesOwn hp (thn (T.item X rfl rfl rfl hc i pins s3 σ3 H3 X.xe I3 (stat fr3) st3 go) fun r s4 ⟨u,hr,h4⟩=>?_)
  subst hr
  refine wpAny_passesOwn hp (thn h4 fun _ s5 ⟨x,H5,I5,r5,y5,st5,fr5⟩=>?_)
  have I5':=I5.pinned (stat fr5) (T.obj _ _ st5)
  refine wpAny_passesOwn hp (thn (hg _ s5 σ3 H5 x u _ I5' r5 (step x H5 y5)) fun _ s6 ⟨σ6,H6,I6,q6⟩=>?_)
  refine wpAny_passesOwn hp (thn (hb _ s6 σ6 H6 _ I6 q6) fun f s7 q7=>?_)
  have again:∀ {σ7:St} {H7:Hp},Inv X (pins++sS fp s5.heap) σ7 H7 s7->N σ7 H7 -> ∃ m,m<n ∧ ∃ i σ' H',Inv X pins σ' H' s7∧tn i s7.heap∧(∀ b∈fp,H' b=none)∧W i m σ' H':=fun {σ7 H7} I7 n7=>by
   obtain ⟨m',hm,w7⟩:=hN σ7 H7 n7
   refine ⟨m',hm,i+1,σ7,H7,I7.unpinned,T.keep _ _ _ st5 fun b hb o e=>(I7.pin (b,o) (List.mem_append_right _ (List.mem_append_right _ (kO hb e)))).1,fun b hb=>?_,w7⟩
   obtain ⟨o,e,d⟩:=T.obj _ _ st5 b hb
   exact (I7.pin (b,o) (List.mem_append_right _ (List.mem_append_right _ (kO hb e)))).2.1
  cases f with
  | next=>obtain ⟨σ7,H7,I7,n7⟩:=q7;exact again I7 n7
  | cont=>obtain ⟨σ7,H7,I7,n7⟩:=q7;exact again I7 n7
  | brk=>obtain ⟨σ7,H7,I7,q7⟩:=q7;exact ⟨σ7,H7,I7.unpinned,q7⟩
  | ret v=>obtain ⟨x7,σ7,H7,I7,r7,q7⟩:=q7;exact ⟨x7,σ7,H7,I7.unpinned,r7,q7⟩
end
end L2
namespace L2
open PySem PySem.Spec PyProof.Rows
abbrev R2:=V->V->Hp->VK->Prop
def OpR (X:Cx) (f:Value->Value->Sem Value) (r:R2):Prop:=
 ∀ (pins:List (Addr×Obj)) (s:Shared) (σ : St) (H:Hp) (x y:V) (v u:Value) (Q:VK),Inv X pins σ H s->RelV x v->RelV y u->r x y H Q ->
  wpAny (model X.prog X.w) X.A (f v u) (EP X pins σ Q) X.xe s
def UnR (X:Cx) (f:Value->Sem Value) (r:V->Hp->VK->Prop):Prop:=
 ∀ (pins:List (Addr×Obj)) (s:Shared) (σ : St) (H:Hp) (x:V) (v:Value) (Q:VK),Inv X pins σ H s->RelV x v->r x H Q ->
  wpAny (model X.prog X.w) X.A (f v) (EP X pins σ Q) X.xe s
def gq (X:Cx) (f:Value) (r:List V->Hp->VK->Prop):Prop:=
 ∀ (pins:List (Addr×Obj)) (s:Shared) (σ : St) (H:Hp) (xs:List V) (us:List Value) (Q:VK),Inv X pins σ H s->Vals xs us->r xs H Q ->
  wpAny (model X.prog X.w) X.A (call f us) (EP X pins σ Q) X.xe s
def QF (X:Cx) (r:V->Hp->(Bool->Hp->Prop)->Prop):Prop:=
 ∀ (pins:List (Addr×Obj)) (s:Shared) (σ : St) (H:Hp) (x:V) (v:Value) (Q:Bool->Hp->Prop),Inv X pins σ H s->RelV x v->r x H Q ->
  wpAny (model X.prog X.w) X.A (truthy v) (TP X pins σ Q) X.xe s
def tOp (r:R2) (ta tb:TE):TE:=fun σ H Q=>ta σ H fun x H1=>tb σ H1 fun y H2=>r x y H2 Q
def tUn (r:V->Hp->VK->Prop) (ta:TE):TE:=fun σ H Q=>ta σ H fun x H1=>r x H1 Q
def rI (C:Int->Int->Prop) (g:Int->Int->V):R2:=fun x y H Q=>∃ i j,x = .int i∧y = .int j∧C i j∧Q (g i j) H
def rI0 (g:Int->Int->V):R2:=fun x y H Q=>∃ i j,x = .int i∧y = .int j∧Q (g i j) H
def rU (g:Int->V):V->Hp->VK->Prop:=fun x H Q=>∃ i,x = .int i∧Q (g i) H
section
variable {X:Cx} {a b c:Expr} {ta tb tc:TE} {pos:Pos}
theorem Kl (ha:PE X a ta) (hb:PE X b tb) {pins:List (Addr×Obj)} {s:Shared} {σ : St} {H:Hp} {R:V->V->Hp->Prop} (I:Inv X pins σ H s)
  (h:ta σ H fun x H1=>tb σ H1 fun y H2=>R x y H2) {Q:Value->Shared->Prop} {f:Value->Value->Sem Value}
  (hf:∀ v u s2 x y H2,Inv X pins σ H2 s2->RelV x v->RelV y u->R x y H2->wpAny (model X.prog X.w) X.A (f v u) Q X.xe s2) :
  wpAny (model X.prog X.w) X.A (eval a X.env) (fun v s₁ => wpAny (model X.prog X.w) X.A (eval b X.env) (fun u s₂ => wpAny (model X.prog X.w) X.A (f v u) Q X.xe s₂) X.xe s₁) X.xe s:=by
 refine thn (ha pins s σ H _ I h) fun v s1 ⟨x,H1,I1,r1,q1⟩=>?_
 refine thn (hb pins s1 σ H1 _ I1 q1) fun u s2 ⟨y,H2,I2,r2,q2⟩=>?_
 exact hf v u s2 x y H2 I2 r1 r2 q2
theorem Ov {op:Operator} {r:R2} (ho:OpR X (binaryOp op) r) (ha:PE X a ta) (hb:PE X b tb):PE X (.BinOp a op b pos) (tOp r ta tb):=by
 intro pins s σ H Q I h
 exact wpAny_BinOp (Kl ha hb I h fun v u s2 x y H2 I2 rx ry q=>ho pins s2 σ H2 x y v u Q I2 rx ry q)
theorem Ow {op:UnaryOp} {r:V->Hp->VK->Prop} (ho:UnR X (unaryOp op) r) (ha:PE X a ta):PE X (.UnaryOp op a pos) (tUn r ta):=by
 intro pins s σ H Q I h
 exact UnaryOp_ (thn (ha pins s σ H _ I h) fun v s1 ⟨x,H1,I1,r1,q1⟩=>ho pins s1 σ H1 x v Q I1 r1 q1)
theorem QJ {op:Operator} {r:R2} (ho:OpR X (inplaceOp op) r) {pins:List (Addr×Obj)} {s:Shared} {σ : St} {H:Hp} {x y:V} {v u:Value} {Q:VK} (I:Inv X pins σ H s)
  (rx:RelV x v) (ry:RelV y u) (q:r x y H Q):wpAny (model X.prog X.w) X.A (inplaceOp op v u) (EP X pins σ Q) X.xe s:=ho pins s σ H x y v u Q I rx ry q
theorem opI {f:Value->Value->Sem Value} {C:Int->Int->Prop} {g:Int->Int->Int}
  (rule:∀ (i j:Int) (t u:Tok) (s:Shared) (Q:Value->Shared->Prop) (E:Value->Shared->Prop),C i j->Q (.int (g i j) s.toks) { s with toks:=s.toks+1 }->wpAny (model X.prog X.w) X.A (f (.int i t) (.int j u)) Q E s) :
  OpR X f (rI C fun i j=>.int (g i j)):=by
 intro pins s σ H x y v u Q I rx ry h
 obtain ⟨i,j,rfl,rfl,hc,q⟩:=h
 obtain ⟨t,rfl⟩:=rx
 obtain ⟨t',rfl⟩:=ry
 exact rule i j t t' s _ _ hc ⟨.int (g i j),H,I.tok _,⟨_,rfl⟩,q⟩
theorem Ot {f:Value->Value->Sem Value} {g:Int->Int->Int}
  (rule:∀ (i j:Int) (t u:Tok) (s:Shared) (Q:Value->Shared->Prop) (E:Value->Shared->Prop),Q (.int (g i j) s.toks) { s with toks:=s.toks+1 }->wpAny (model X.prog X.w) X.A (f (.int i t) (.int j u)) Q E s) :
  OpR X f (rI0 fun i j=>.int (g i j)):=by
 intro pins s σ H x y v u Q I rx ry h
 obtain ⟨i,j,rfl,rfl,q⟩:=h
 obtain ⟨t,rfl⟩:=rx
 obtain ⟨t',rfl⟩:=ry
 exact rule i j t t' s _ _ ⟨.int (g i j),H,I.tok _,⟨_,rfl⟩,q⟩
theorem Mg {f:Value->Value->Sem Value} {g:Int->Int->Bool}
  (rule:∀ (i j:Int) (t u:Tok) (s:Shared) (Q:Value->Shared->Prop) (E:Value->Shared->Prop),Q (.bool (g i j)) s->wpAny (model X.prog X.w) X.A (f (.int i t) (.int j u)) Q E s) :
  OpR X f (rI0 fun i j=>.bl (g i j)):=by
 intro pins s σ H x y v u Q I rx ry h
 obtain ⟨i,j,rfl,rfl,q⟩:=h
 obtain ⟨t,rfl⟩:=rx
 obtain ⟨t',rfl⟩:=ry
 exact rule i j t t' s _ _ ⟨.bl (g i j),H,I,rfl,q⟩
def NT (i j:Int):Prop:=0<=j∧j<=1000000∧i.natAbs<2 ^ 64
def NQ (i j:Int):Prop:=(-(2 ^ 64)<i∧i<2 ^ 64)∨(-(2 ^ 64)<j∧j<2 ^ 64)
theorem NQ.ok {i j:Int} (h:NQ i j):IntMulOk i j:=by
 rcases h with ⟨h1,h2⟩ | ⟨h1,h2⟩
 ·exact .of_left (intBits_le_64 h1 h2)
 ·exact .of_right (intBits_le_64 h1 h2)
theorem Ga:OpR X (binaryOp .Add) (rI0 fun i j=>.int (i+j)):=Ot fun _ _ _ _ _ _ _ q=>add_int q
theorem ig:OpR X (binaryOp .Sub) (rI0 fun i j=>.int (i - j)):=Ot fun _ _ _ _ _ _ _ q=>sub_int q
theorem gK:OpR X (binaryOp .Mod) (rI (fun _ j=>j≠0) fun i j=>.int (i.fmod j)):=opI fun _ _ _ _ _ _ _ hc q=>mod_int' hc q
theorem vL:OpR X (binaryOp .Pow) (rI NT fun i j=>.int (i ^ j.toNat)):=opI fun _ _ _ _ _ _ _ hc q=>pow_int_small hc.1 hc.2.1 hc.2.2 q
theorem unI {f:Value->Sem Value} {g:Int->Int}
  (rule:∀ (i:Int) (t:Tok) (s:Shared) (Q:Value->Shared->Prop) (E:Value->Shared->Prop),Q (.int (g i) s.toks) { s with toks:=s.toks+1 }->wpAny (model X.prog X.w) X.A (f (.int i t)) Q E s) :
  UnR X f (rU fun i=>.int (g i)):=by
 intro pins s σ H x v Q I rx h
 obtain ⟨i,rfl,q⟩:=h
 obtain ⟨t,rfl⟩:=rx
 exact rule i t s _ _ ⟨.int (g i),H,I.tok _,⟨_,rfl⟩,q⟩
theorem pU:UnR X (unaryOp .USub) (rU fun i=>.int (-i)):=unI fun _ _ _ _ _ q=>neg_int q
end
section
variable {X:Cx} {a b c:Expr} {ta tb tc:TE} {pos:Pos}
theorem KD {pins:List (Addr×Obj)} {σ : St} {H:Hp} {s:Shared} {Q:VK} {k k':Bool} (I:Inv X pins σ H s) (q:Q (.bl k) H) (e:k=k'):EP X pins σ Q (.bool k') s:=by
 subst e
 exact ⟨.bl k,H,I,rfl,q⟩
theorem JV:OpR X (compareOp .Lt) (rI0 fun i j=>.bl (decide (i<j))):=Mg fun _ _ _ _ _ _ _ q=>lt_int q
theorem nY:OpR X (compareOp .LtE) (rI0 fun i j=>.bl (decide (i<=j))):=Mg fun _ _ _ _ _ _ _ q=>le_int q
theorem yd:OpR X (compareOp .Gt) (rI0 fun i j=>.bl (decide (j<i))):=Mg fun _ _ _ _ _ _ _ q=>gt_int q
theorem Gf:OpR X (compareOp .Is) (fun x y H Q=>y = .non∧Q (.bl (decide (x = .non))) H):=by
 intro pins s σ H x y v u Q I rx ry h
 obtain ⟨rfl,q⟩:=h
 cases ry
 refine is_none_gen (KD I q ?_)
 cases x <;> first
  | (cases rx;rfl)
  | (obtain ⟨t,rfl⟩:=rx;rfl)
theorem OpR.or {f:Value->Value->Sem Value} {r r':R2} (h:OpR X f r) (h':OpR X f r'):OpR X f (fun x y H Q=>r x y H Q∨r' x y H Q):=by
 intro pins s σ H x y v u Q I rx ry q
 rcases q with q | q
 ·exact h pins s σ H x y v u Q I rx ry q
 ·exact h' pins s σ H x y v u Q I rx ry q
theorem cY (b:Expr) {op:CmpOp} (h:op ≠ .In:=by decide) (h2:op ≠ .NotIn:=by decide):behindInMarks op b=false:=by
 have e1:(op==CmpOp.In)=false:=by cases op <;> first | rfl | exact absurd rfl h
 have e2:(op==CmpOp.NotIn)=false:=by cases op <;> first | rfl | exact absurd rfl h2
 cases b <;> simp [behindInMarks,e1,e2]
theorem Ir {op:CmpOp} {r:R2} (ho:OpR X (compareOp op) r) (ha:PE X a ta) (hb:PE X b tb) (hm:behindInMarks op b=false):PE X (.Compare a [op] [b] pos) (tOp r ta tb):=by
 intro pins s σ H Q I h
 exact wpAny_Compare1 (Kl ha hb I h fun v u s2 x y H2 I2 rx ry q=>ho pins s2 σ H2 x y v u Q I2 rx ry q) hm
def Qq (t:TE):TT:=fun σ H Q=>t σ H fun x H'=>∃ k,x = .bl k∧Q k H'
theorem Jd {op:CmpOp} {r:R2} (ho:OpR X (compareOp op) r) (ha:PE X a ta) (hb:PE X b tb) (hm:behindInMarks op b=false):PT X (.Compare a [op] [b] pos) (Qq (tOp r ta tb)):=by
 intro pins s σ H Q I h
 refine wpAny_isTrue_Compare1 (thn (ha pins s σ H _ I h) fun v s1 ⟨x,H1,I1,r1,q1⟩=>thn (hb pins s1 σ H1 _ I1 q1) fun u s2 ⟨y,H2,I2,r2,q2⟩=>
  thn (ho pins s2 σ H2 x y v u _ I2 r1 r2 q2) fun c s3 ⟨z,H3,I3,r3,k,e,q3⟩=>?_) hm
 subst e
 cases r3
 exact wpAny_truthy_bool ⟨H3,I3,q3⟩
def GR (r r':R2) (ta tb tc:TE):TE:=fun σ H Q=>ta σ H fun x H1=>tb σ H1 fun y H2=>r x y H2 fun z H3=>∃ k,z = .bl k ∧
 (if k=true then tc σ H3 fun w' H4=>r' y w' H4 Q else Q (.bl false) H3)
theorem Gk {op op':CmpOp} {r r':R2} (ho:OpR X (compareOp op) r) (ho':OpR X (compareOp op') r') (ha:PE X a ta) (hb:PE X b tb) (hc:PE X c tc)
  (hm:lastMarks [op,op'] [b,c]=false:=by with_unfolding_all rfl):PE X (.Compare a [op,op'] [b,c] pos) (GR r r' ta tb tc):=by
 intro pins s σ H Q I h
 refine Compare_chain (thn (ha pins s σ H _ I h) fun v s1 ⟨x,H1,I1,r1,q1⟩=>chain_link (thn (hb pins s1 σ H1 _ I1 q1) fun u s2 ⟨y,H2,I2,r2,q2⟩=>
  thn (ho pins s2 σ H2 x y v u _ I2 r1 r2 q2) fun d s3 ⟨z,H3,I3,r3,k,e,q3⟩=>?_)) hm
 subst e
 cases r3
 refine wpAny_truthy_bool ?_
 cases k with
 | false=>exact ite_ff ⟨.bl false,H3,I3,rfl,q3⟩
 | true=>exact ite_tt (chain_last (thn (hc pins s3 σ H3 _ I3 q3) fun w' s4 ⟨z',H4,I4,r4,q4⟩=>ho' pins s4 σ H4 y z' u w' Q I4 r2 r4 q4))
def Kf (K:PySem.W.Frag) (x:V) (H:Hp) (k:Bool):Prop:=
 match x with
 | .non=>k=false
 | .bl b=>k=b
 | .int i=>k=(i != 0)
 | .str y=>y.length<=sizeLine∧k=((y.length:Int) != 0)
 | .byt y=>y.size<=sizeLine∧k=((y.size:Int) != 0)
 | .ref p=>(∃ xs,SqL K H p xs∧k = !xs.isEmpty)∨(∃ xs,SqT K H p xs∧k = !xs.isEmpty) ∨ ∃ kvs,H p=some (.dK kvs)∧k = !kvs.isEmpty
 | _=>False
theorem yU {κ : Type} {kvs:List (κ × V)} {vs:List (κ × Value)} (r:KV kvs vs):(!vs.isEmpty) = !kvs.isEmpty:=by
 cases r <;> rfl
theorem rK {xs:List V} {its:List Value} (r:Vals xs its):(!its.toArray.isEmpty) = !xs.isEmpty:=by
 cases r <;> simp
theorem mH:(sizeLine:Nat)<2 ^ 63:=by rw [sizeLine_eq];decide
theorem Nv:QF X (fun x H Q=>∃ k,Kf X.K x H k∧Q k H):=by
 intro pins s σ H x v Q I rx h
 obtain ⟨k,e,q⟩:=h
 have hl:=mH
 have hs:sizeLine=16777216:=sizeLine_eq
 cases x with
 | non=>
  cases rx
  have e':k=false:=e
  subst e'
  exact truthy_none ⟨H,I,q⟩
 | bl b=>
  cases rx
  have e':k=b:=e
  subst e'
  exact wpAny_truthy_bool ⟨H,I,q⟩
 | int i=>
  obtain ⟨t,rfl⟩:=rx
  have e':k=(i != 0):=e
  subst e'
  exact PySem.P.truthy_int ⟨H,I,q⟩
 | str y=>
  obtain ⟨t,rfl⟩:=rx
  obtain ⟨hy,e'⟩:y.length<=sizeLine∧k=((y.length:Int) != 0):=e
  subst e'
  exact PySem.P.truthy_str (by omega) ⟨H,I.tok _,q⟩
 | byt y=>
  obtain ⟨t,rfl⟩:=rx
  obtain ⟨hy,e'⟩:y.size<=sizeLine∧k=((y.size:Int) != 0):=e
  subst e'
  exact PySem.W.truthy_bytes (by omega) ⟨H,I.tok _,q⟩
 | ref p=>
  cases rx
  have e':(∃ xs,SqL X.K H p xs∧k = !xs.isEmpty)∨(∃ xs,SqT X.K H p xs∧k = !xs.isEmpty) ∨ ∃ kvs,H p=some (.dK kvs)∧k = !kvs.isEmpty:=e
  rcases e' with ⟨xs,hx,e'⟩ | ⟨xs,hx,e'⟩ | ⟨kvs,hx,e'⟩
  ·subst e'
   obtain ⟨its,r,pl,hz⟩:=I.list hx
   have hlen:=r.length
   exact wpAny_truthy_list pl.isList (by simp only [List.size_toArray];omega) ⟨H,I.tok _,by rw [rK r];exact q⟩
  ·subst e'
   obtain ⟨its,r,pl,hz⟩:=I.tuple hx
   have hlen:=r.length
   exact truthy_tuple pl (by simp only [List.size_toArray];omega) ⟨H,I.tok _,by rw [rK r];exact q⟩
  ·subst e'
   obtain ⟨hz,hS,vs,r,m⟩:kvs.length<=sizeLine∧(p==sysModules)=false ∧ ∃ vs,KV kvs vs∧s.heap.DictOf (gH X.prog X.w) p vs:=I.hok p _ hx
   have hlen:kvs.length=vs.length:=Paired.length r
   exact wpAny_truthy_dict hS m (by omega) ⟨H,I.tok _,by rw [yU r];exact q⟩
 | _=>exact (show False from e).elim
theorem Gx (ha:PE X a ta) (he:∀ whole,isTrue a X.env whole=(do let v ← whole;standAt a.pos;holding [v] (truthy v))) :
  PT X a (fun σ H Q=>ta σ H fun x H'=>∃ k,Kf X.K x H' k∧Q k H'):=by
 intro pins s σ H Q I h
 exact isTrue_plain (thn (ha pins s σ H _ I h) fun v s1 ⟨x,H1,I1,r1,q1⟩=>Nv pins s1 σ H1 x v Q I1 r1 q1) (he _)
theorem zq:OpR X (binaryOp .Add) (fun x y H Q=>∃ i j,x = .str i∧y = .str j∧i.length+j.length<=sizeLine∧Q (.str (i++j)) H):=by
 intro pins s σ H x y v u Q I rx ry h
 obtain ⟨i,j,rfl,rfl,hz,q⟩:=h
 obtain ⟨t,rfl⟩:=rx
 obtain ⟨t',rfl⟩:=ry
 exact add_str (fun t' tk=>⟨.str (i++j),H,I.tok _,⟨_,rfl⟩,q⟩) hz
theorem vals1 {x:V} {us:List Value} (r:Vals [x] us):∃ u,us=[u]∧RelV x u:=by
 cases r with
 | cons r1 r2=>cases r2;exact ⟨_,rfl,r1⟩
theorem vals2 {x y:V} {us:List Value} (r:Vals [x,y] us):∃ u w',us=[u,w']∧RelV x u∧RelV y w':=by
 cases r with
 | cons r1 r2=>
  cases r2 with
  | cons r3 r4=>cases r4;exact ⟨_,_,rfl,r1,r3⟩
theorem DQ:gq X (.builtin "abs") (fun xs H Q=>∃ i,xs=[.int i]∧Q (.int (if i<0 then -i else i)) H):=by
 intro pins s σ H xs us Q I r h
 obtain ⟨i,rfl,q⟩:=h
 obtain ⟨u,rfl,t,rfl⟩:=vals1 r
 exact call_abs_int fun u tk=>⟨.int (if i<0 then -i else i),H,I.tok _,⟨_,rfl⟩,q⟩
theorem Cd (hc:X.calm=true):gq X (.builtin "max") (fun xs H Q=>∃ i j,xs=[.int i,.int j]∧Q (.int (if j>i then j else i)) H):=by
 intro pins s σ H xs us Q I r h
 obtain ⟨i,j,rfl,q⟩:=h
 obtain ⟨u,w',rfl,⟨t,rfl⟩,⟨t',rfl⟩⟩:=vals2 r
 refine max_two_ints (I.ok.hd hc) fun h' tk k=>⟨_,H,I.kept k,?_,q⟩
 by_cases hj:j>i
 ·rw [if_pos hj,if_pos hj];exact ⟨_,rfl⟩
 ·rw [if_neg hj,if_neg hj];exact ⟨_,rfl⟩
theorem uo (hc:X.calm=true):gq X (.builtin "min") (fun xs H Q=>∃ i j,xs=[.int i,.int j]∧Q (.int (if j<i then j else i)) H):=by
 intro pins s σ H xs us Q I r h
 obtain ⟨i,j,rfl,q⟩:=h
 obtain ⟨u,w',rfl,⟨t,rfl⟩,⟨t',rfl⟩⟩:=vals2 r
 refine min_two_ints (I.ok.hd hc) fun h' tk k=>⟨_,H,I.kept k,?_,q⟩
 by_cases hj:j<i
 ·rw [if_pos hj,if_pos hj];exact ⟨_,rfl⟩
 ·rw [if_neg hj,if_neg hj];exact ⟨_,rfl⟩
theorem BZ:gq X (.type "int") (fun xs H Q=>(∃ i,xs=[.int i]∧Q (.int i) H) ∨ ∃ k,xs=[.bl k]∧Q (.int (if k then 1 else 0)) H):=by
 intro pins s σ H xs us Q I r h
 rcases h with ⟨i,rfl,q⟩ | ⟨k,rfl,q⟩
 ·obtain ⟨u,rfl,t,rfl⟩:=vals1 r
  exact call_int_int ⟨.int i,H,I,⟨_,rfl⟩,q⟩
 ·obtain ⟨u,rfl,r1⟩:=vals1 r
  cases r1
  exact call_int_bool ⟨.int (if k then 1 else 0),H,I.tok _,⟨_,rfl⟩,q⟩
end
end L2
namespace L2
open PySem PySem.Spec PyProof.Rows
structure ObjM (h:Heap) (x dx C:Addr) (mA:Str->Option Value):Prop where
 obj:h.get? x=some (PySem.W.instObj C dx)
 ns:h.Ns1 dx mA
 ne:dx≠x
theorem CP {h:Heap} {dx:Addr} {mA:Str->Option Value} (n:h.Ns1 dx mA):∃ od,h.get? dx=some od ∧ ∀ name,PySem.W.lookIn name od=some (mA name):=by
 obtain ⟨o,es,ep,ho,hd,hk,_,hm⟩:=n
 refine ⟨o,ho,fun name=>?_⟩
 have e:=hm name
 unfold nsFind findBy at e
 rw [← Array.find?_toList] at e
 unfold PySem.W.lookIn
 rw [hd]
 dsimp only
 split
 ·rename_i y q
  rw [q] at e
  exact congrArg some e
 ·rename_i q
  rw [q] at e
  have a:es.toList.any (·.refKey)=false:=by
   rw [List.any_eq_false]
   intro y hy
   obtain ⟨z,t,hkey⟩:=hk y (Array.mem_toList_iff.mp hy)
   simp [DictEntry.refKey,hkey]
  have a':¬ es.toList.any (·.refKey)=true:=by rw [a];exact Bool.false_ne_true
  rw [if_neg a']
  exact congrArg some e
theorem ObjM.look {h:Heap} {x dx C:Addr} {mA:Str->Option Value} (I:ObjM h x dx C mA):∃ od,PySem.W.InstAt h x (PySem.W.instObj C dx) C (some od) ∧ ∀ name,PySem.W.lookIn name od=some (mA name):=
 let ⟨od,ho,hl⟩:=CP I.ns
 ⟨od,⟨I.obj,rfl,rfl,ho⟩,hl⟩
section
variable {prog:Program} {w:World} {A:Around} {E:Value->Shared->Prop} {s:Shared} {K:PySem.W.Frag} {x dx C f:Addr} {mA:Str->Option Value} {name:Str} {v:Value}
end
theorem wu.none_of {o:Option Value} (r:wu none o):o=none:=by
 cases o with
 | none=>rfl
 | some u=>exact (show False from r).elim
section
variable {P:Program} {w:World} {H H':Hp} {h h':Heap} {a C dx:Addr} {fs fs':List (Str×V)}
theorem Hz (hok:HOk P w H h) (e:H a=some (.ins C dx fs)):∃ mA,ObjM h a dx C mA∧(∀ f,wu (fs.lookup f) (mA f))∧PySem.Within mA (fs.map (·.1))∧fs.length<=1000∧H dx=some (.own a):=by
 obtain ⟨d,z,ne,ob,mA,n,r,q⟩:=(show dI P w H h a (.ins C dx fs) from hok a _ e)
 exact ⟨mA,⟨ob,n,ne⟩,r,q,z,d⟩
end
structure Cls (K:PySem.W.Frag) (C:Addr):Prop where
 pg:PySem.W.plainGet K C Str.empty=true
 hd:PySem.W.hasDictIn K C=true
 po:PySem.W.plainOver K C=true
 sa:PySem.W.findIn K (.ref C) "__setattr__" = some (some (.builtin "object.__setattr__"))
theorem Cls.get {K:PySem.W.Frag} {C:Addr} (c:Cls K C) (f:Str):PySem.W.plainGet K C f=true:=c.pg
structure Con (K:PySem.W.Frag) (C:Addr) (f:Str) (v:V) (u:Value):Prop where
 at_:PySem.W.findIn K (.ref C) f=some (some u)
 rel:RelV v u
 get:PySem.W.specialIn K u "__get__" = some none
 cp:PySem.W.copiedNames.contains f=false
structure Meth (K:PySem.W.Frag) (C:Addr) (m:Str) (f:Addr):Prop where
 at_:PySem.W.findIn K (.ref C) m=some (some (.ref f))
 fn:PySem.W.isFn K (.ref f)=true
 kp:PySem.W.keepIn K (.ref f)=true
section
variable {X:Cx} {pins:List (Addr×Obj)} {σ : St} {H:Hp} {s:Shared} {a C dx:Addr} {fs:List (Str×V)} {f:Str} {v:V} {A:Around} {E:Value->Shared->Prop}
end
section
variable {X:Cx} {o e value:Expr} {f:Str} {pos pos' tpos:Pos} {ta tv:TE}
end
section
variable {X:Cx} {pins:List (Addr×Obj)} {σ : St} {H:Hp} {s:Shared} {A:Around} {E:Value->Shared->Prop} {Q:Value->Shared->Prop} {c:Value} {b:Bool}
inductive TyOf (K:PySem.W.Frag) (H:Hp):V->Value->Prop where
 | non:TyOf K H .non (.type "NoneType")
 | bl (x:Bool):TyOf K H (.bl x) (.type "bool")
 | int (i:Int):TyOf K H (.int i) (.type "int")
 | str (x:Str):TyOf K H (.str x) (.type "str")
 | flt (x:UInt64):TyOf K H (.flt x) (.type "float")
 | lst {a:Addr} {xs:List V} (e:H a=some (.lst xs)):TyOf K H (.ref a) (.type "list")
 | frz {a:Addr} {o:Obj} {xs:List V} (e:H a=some (.frz o (.lst xs))):TyOf K H (.ref a) (.type "list")
 | tup {a:Addr} {xs:List V} (e:H a=some (.tup xs)):TyOf K H (.ref a) (.type "tuple")
 | dK {a:Addr} {kvs:List (Key×V)} (e:H a=some (.dK kvs)):TyOf K H (.ref a) (.type "dict")
 | dT {a:Addr} {kvs:List (List Key×V)} (e:H a=some (.dT kvs)):TyOf K H (.ref a) (.type "dict")
 | ins {a C dx:Addr} {fs:List (Str×V)} (e:H a=some (.ins C dx fs)) (cl:Cls K C) (ha:PySem.W.findIn K (.ref C) "__class__" = some (some (.builtin "object.__class__")))
   (hn:PySem.W.specialIn K (.builtin "object.__class__") "__get__" = some (some (.builtin "getset_descriptor.__get__"))) (htk:PySem.W.takesIn K (.builtin "object.__class__")=some true)
   (hm:PySem.W.mroIn K C (.type "object")=some true):TyOf K H (.ref a) (.ref C)
theorem Cy {x:V} {u t:Value} (I:Inv X pins σ H s) (rx:RelV x u) (ty:TyOf X.K H x t) (e:PySem.W.kitOne X.K t c=some b) (h:∀ tk,Q (.bool b) { s with toks:=tk }) :
  wpAny (model X.prog X.w) A (call (.builtin "isinstance") [u,c]) Q E s:=by
 cases ty with
 | non=>cases (show u=Value.none from rx);exact PySem.W.kia_one PySem.W.kitx_none I.kIn True.intro e (fun z=>nomatch z) h
 | bl y=>cases (show u=Value.bool y from rx);exact PySem.W.kia_one PySem.W.kitx_bool I.kIn True.intro e (fun z=>nomatch z) h
 | int i=>obtain ⟨t,q⟩:=(show ∃ t,u=Value.int i t from rx);cases q;exact PySem.W.kia_one PySem.W.kitx_int I.kIn True.intro e (fun z=>nomatch z) h
 | str y=>obtain ⟨t,q⟩:=(show ∃ t,u=Value.str y t from rx);cases q;exact PySem.W.kia_one PySem.W.kitx_str I.kIn True.intro e (fun z=>nomatch z) h
 | flt y=>obtain ⟨t,q⟩:=(show ∃ t,u=Value.float y t from rx);cases q;exact PySem.W.kia_one PySem.W.kitx_float I.kIn True.intro e (fun z=>nomatch z) h
 | @lst a xs ea=>
  cases (show u=Value.ref a from rx)
  obtain ⟨_,_,n,_,h1⟩:=(show dI X.prog X.w H s.heap a (.lst xs) from I.hok a _ ea)
  exact PySem.W.kia_one PySem.W.kitx_list I.kIn ⟨_,h1,rfl⟩ e (fun z=>nomatch z) h
 | @frz a ob xs ea=>
  cases (show u=Value.ref a from rx)
  obtain ⟨_,_,_,n,_,h1⟩:=(show dI X.prog X.w H s.heap a (.frz ob (.lst xs)) from I.hok a _ ea)
  exact PySem.W.kia_one PySem.W.kitx_list I.kIn ⟨_,h1,rfl⟩ e (fun z=>nomatch z) h
 | @tup a xs ea=>
  cases (show u=Value.ref a from rx)
  obtain ⟨_,_,_,p⟩:=(show dI X.prog X.w H s.heap a (.tup xs) from I.hok a _ ea)
  obtain ⟨o,h1,h2,_⟩:=p
  exact PySem.W.kia_one PySem.W.kitx_tuple I.kIn ⟨o,h1,h2⟩ e (fun z=>nomatch z) h
 | @dK a kvs ea=>
  cases (show u=Value.ref a from rx)
  obtain ⟨_,_,vs,_,p⟩:=(show dI X.prog X.w H s.heap a (.dK kvs) from I.hok a _ ea)
  obtain ⟨o,es,ep,h1,h2,_⟩:=p
  exact PySem.W.kia_one PySem.W.kitx_dict I.kIn ⟨o,h1,h2.1⟩ e (fun z=>nomatch z) h
 | @dT a kvs ea=>
  cases (show u=Value.ref a from rx)
  obtain ⟨_,_,xs,_,o,es,ep,h1,h2,_⟩:=(show dI X.prog X.w H s.heap a (.dT kvs) from I.hok a _ ea)
  exact PySem.W.kia_one PySem.W.kitx_dict I.kIn ⟨o,h1,h2.1⟩ e (fun z=>nomatch z) h
 | @ins a C dx fs ea cl ha hn htk hm=>
  cases (show u=Value.ref a from rx)
  obtain ⟨mA,O,_⟩:=Hz I.hok ea
  obtain ⟨od,J,_⟩:=O.look
  exact PySem.W.kia_one (PySem.W.kitx_own (cl.get _) cl.hd ha hn htk hm) I.kIn J e (fun z=>nomatch z) h
end
end L2
namespace L2
open PySem PySem.Spec PyProof.Rows
structure Room (k:Nat) (A:Around):Prop where
 hd:A.handled=none
 dp:A.depth+3*k+5<recursionLimit
 un:A.units+16*k+200<cLine
theorem Room.mono {j k:Nat} {A:Around} (r:Room k A) (h:j<=k):Room j A:=⟨r.hd,by have:=r.dp;omega,by have:=r.un;omega⟩
theorem Room.deeper {k:Nat} {A:Around} (r:Room (k+1) A) (env:Env):Room k (A.deeper env):=
 ⟨r.hd,by have:=r.dp;show A.depth+1+3*k+5<_;omega,by have:=r.un;show A.units+3+16*k+200<_;omega⟩
theorem Room.in1 {k:Nat} {A:Around} (r:Room (k+1) A):Room k A.in1:=
 ⟨r.hd,by have:=r.dp;show A.depth+3*k+5<_;omega,by have:=r.un;show A.units+1+16*k+200<_;omega⟩
theorem zb {A:Around} {C:Addr} {us:List Value} {kw:List (Str×Value)}:(A.under (.builtin "type.__call__" ⟨.ref C :: us,kw⟩)).depth=A.depth+1:=by
 first | rfl | simp [Around.under,Code.weight,Code.isCreation,Code.isGuard,Code.isCaller,Code.frames,Code.isFrame,guardIds]
theorem zc {A:Around} {C:Addr} {us:List Value} {kw:List (Str×Value)}:(A.under (.builtin "type.__call__" ⟨.ref C :: us,kw⟩)).units=A.units+1:=by
 first | rfl | simp [Around.under,Code.cUnits,Code.frames,Code.isFrame]
theorem Room.make {k:Nat} {A:Around} (r:Room (k+1) A) (C:Addr) (us:List Value) (kw:List (Str×Value)):Room k (A.under (.builtin "type.__call__" ⟨.ref C :: us,kw⟩)):=
 ⟨r.hd,by have:=r.dp;rw [zb];omega,by have:=r.un;rw [zc];omega⟩
theorem Room.depth {k:Nat} {A:Around} (r:Room k A):A.depth<recursionLimit:=by have:=r.dp;omega
theorem Room.units {k:Nat} {A:Around} (r:Room k A):A.units+64<cLine:=by have:=r.un;omega
def Rb:TA:=fun _ H Q=>Q [] H
def Qj (ta:TE) (tr:TA):TA:=fun σ H Q=>ta σ H fun x H1=>tr σ H1 fun xs H2=>Q (x :: xs) H2
section
variable {X:Cx} {e:Expr} {es:List Expr} {te:TE} {t:TA} {pos:Pos}
theorem Mj:PA X [] Rb:=fun _ _ _ _ H Q I h=>Calls.spliced_nil ⟨[],H,I,.nil,h⟩
theorem Io (ha:PE X e te) (hr:PA X es t) (hs:starEach (e :: es) X.env=(false,eval e X.env) :: starEach es X.env:=by rfl):PA X (e :: es) (Qj te t):=by
 intro pos pins s σ H Q I h
 rw [hs]
 show wpAny _ _ (spliced ((false,eval e X.env) :: backTo pos (starEach es X.env))) _ _ s
 refine Calls.spliced_cons (thn (ha pins s σ H _ I h) fun u s1 ⟨x,H1,I1,r1,q1⟩=>?_)
 exact thn (hr pos pins s1 σ H1 _ I1 q1) fun us s2 ⟨xs,H2,I2,r2,q2⟩=>⟨x :: xs,H2,I2,.cons r1 r2,q2⟩
def Rh (t:TA):TE:=fun σ H Q=>t σ H fun xs H1=>xs.length<=sizeLine ∧ ∀ p,H1 p=none->Q (.ref p) (upd H1 p (.tup xs))
def Ra (t:TA):TE:=fun σ H Q=>t σ H fun xs H1=>xs.length<=sizeLine ∧ ∀ p,H1 p=none->Q (.ref p) (upd H1 p (.lst xs))
theorem Mt {x1} (h:PA X es t):PE X (.Tuple es x1 pos) (Rh t):=by
 intro pins s σ H Q I hq
 refine wpAny_Tuple_spliced (thn (h pos pins s σ H _ I hq) fun us s1 ⟨xs,H1,I1,r,z,q⟩=>⟨by rw [← r.length];exact z,?_⟩)
 have hf:H1 s1.heap.objs.size=none:=I1.hok.fresh (Nat.le_refl _)
 refine ⟨.ref s1.heap.objs.size,upd H1 s1.heap.objs.size (.tup xs),I1.laid (t':=s1.toks) (fun b u e=>Heap.get?_push_of_some _ e) (Nat.le_refl _) ?_,rfl,q _ hf⟩
 exact ⟨z,us,r,⟨_,Heap.get?_push_size _ rfl,rfl,_,rfl⟩⟩
theorem Mm (h:PA X es t):PE X (.List es pos) (Ra t):=by
 intro pins s σ H Q I hq
 refine wpAny_List_spliced (thn (h pos pins s σ H _ I hq) fun us s1 ⟨xs,H1,I1,r,z,q⟩=>⟨by rw [← r.length];exact z,?_⟩)
 have hf:H1 s1.heap.objs.size=none:=I1.hok.fresh (Nat.le_refl _)
 refine ⟨.ref s1.heap.objs.size,upd H1 s1.heap.objs.size (.lst xs),I1.laid (t':=s1.toks) (fun b u e=>Heap.get?_push_of_some _ e) (Nat.le_refl _) ?_,rfl,q _ hf⟩
 exact ⟨z,us,0,r,Heap.get?_push_size _ rfl⟩
end
abbrev Sp:=List V->Hp->VK->XK->Prop
abbrev CXT:=List Env->Hp->Shared->XK->Value->Shared->Prop
structure Env0 (P:Program) (w:World) (K:PySem.W.Frag) (mg:Str->Option Value) (base:Heap) (A:Around) (outer:List Env) (s:Shared) (H:Hp):Prop where
 frames:A.frames=some outer
 mod:Mod K mg base
 bs:∀ b o,base.get? b=some o->s.heap.get? b=some o∧H b=none
 bsz:base.objs.size<=s.heap.objs.size
 funs:s.heap.FunFrames base outer
 frf:∀ b∈frs outer,H b=none
 hok:HOk P w H s.heap
 bare:AllBare s.gens
def CE (outer:List Env) (P:Program) (w:World) (H:Hp) (s:Shared) (Q:VK) (u:Value) (s':Shared):Prop:=
 ∃ v H',s'.os=s.os∧AllBare s'.gens∧Un (frs outer) [] H H' s.heap s'.heap∧HOk P w H' s'.heap∧RelV v u∧Q v H'
def CR (CX:CXT) (outer:List Env) (P:Program) (w:World) (H:Hp) (s:Shared) (Q:VK) (E:XK) (r:Result) (s':Shared):Prop:=
 match r with
 | .ok (.ret u)=>CE outer P w H s Q u s'
 | .ok _=>False
 | .error e=>CX outer H s E e s'
structure FnOk (P:Program) (w:World) (K:PySem.W.Frag) (mg:Str->Option Value) (base:Heap) (CX:CXT) (k:Nat) (f:Addr) (fd:FuncData) (ps:List Str) (sp:Sp):Prop where
 len:∀ vs H Q E,sp vs H Q E->vs.length=ps.length
 run:∀ (A:Around) (outer:List Env) (s:Shared) (H:Hp) (args:Args) (us:List Value) (vs:List V) (Q:VK) (E:XK),Room k A->Env0 P w K mg base A outer s H->BindsTo s fd args (ps.zip us)->Vals vs us->sp vs H Q E ->
  codeAny (model P w) A (.call (.ref f) args) (CR CX outer P w H s Q E) s
theorem FnOk.mono {P:Program} {w:World} {K:PySem.W.Frag} {mg:Str->Option Value} {base:Heap} {CX:CXT} {j k:Nat} {f:Addr} {fd:FuncData} {ps:List Str} {sp:Sp} (F:FnOk P w K mg base CX j f fd ps sp) (h:j<=k) :
  FnOk P w K mg base CX k f fd ps sp:=⟨F.len,fun A outer s H args us vs Q E hr=>F.run A outer s H args us vs Q E (hr.mono h)⟩
theorem FnOk.imp {P:Program} {w:World} {K:PySem.W.Frag} {mg:Str->Option Value} {base:Heap} {CX:CXT} {k:Nat} {f:Addr} {fd:FuncData} {ps:List Str} {sp sp':Sp} (F:FnOk P w K mg base CX k f fd ps sp)
  (h:∀ vs H Q E,sp' vs H Q E->sp vs H Q E):FnOk P w K mg base CX k f fd ps sp':=
 ⟨fun vs H Q E q=>F.len vs H Q E (h _ _ _ _ q),fun A outer s H args us vs Q E hr he hb hv hs=>F.run A outer s H args us vs Q E hr he hb hv (h _ _ _ _ hs)⟩
theorem Env0.make {P:Program} {w:World} {K:PySem.W.Frag} {mg:Str->Option Value} {base:Heap} {A:Around} {outer:List Env} {s:Shared} {H:Hp} (e:Env0 P w K mg base A outer s H) (C:Addr) (us:List Value) (kw:List (Str×Value)) :
  Env0 P w K mg base (A.under (.builtin "type.__call__" ⟨.ref C :: us,kw⟩)) outer s H:=⟨by first | exact e.frames | (simpa [Around.under,Code.envs,Code.isFrame,pushEnvs] using e.frames),e.mod,e.bs,e.bsz,e.funs,e.frf,e.hok,e.bare⟩
theorem Env0.in1 {P:Program} {w:World} {K:PySem.W.Frag} {mg:Str->Option Value} {base:Heap} {A:Around} {outer:List Env} {s:Shared} {H:Hp} (e:Env0 P w K mg base A outer s H) :
  Env0 P w K mg base A.in1 outer s H:=⟨e.frames,e.mod,e.bs,e.bsz,e.funs,e.frf,e.hok,e.bare⟩
section
variable {X:Cx} {pins:List (Addr×Obj)} {σ : St} {H:Hp} {s s':Shared}
theorem Inv.env0 (I:Inv X pins σ H s):Env0 X.prog X.w X.K X.mg X.base X.A X.stack s H:=
 ⟨I.ok.frames,I.ok.mod,I.bs,Nat.le_trans I.ok.bsz I.sz,I.stack,I.stkFree,I.hok,I.bare⟩
theorem Inv.after {Q:VK} {u:Value} (I:Inv X pins σ H s) (h:CE X.stack X.prog X.w H s Q u s'):EP X pins σ Q u s':=by
 obtain ⟨v,H',os,bare,un,hok,r,q⟩:=h
 obtain ⟨hh,g,d,t,os'⟩:=s'
 obtain rfl:os'=s.os:=os
 exact ⟨v,H',I.call (h':=hh) (g':=g) (d':=d) (t':=t) (ch:=[]) un hok bare (fun b z=>absurd z (by simp)),r,q⟩
end
def Qi (sp:Sp) (dvs:List V) (E:XK) (t:TA):TE:=fun σ H Q=>t σ H fun vs H1=>sp (vs++dvs) H1 Q E
def Binds (K:PySem.W.Frag) (fd:FuncData) (ps:List Str) (ds:List Value):Prop:=
 ∀ (s:Shared) (us:List Value),K.In s.heap->(us++ds).length=ps.length->BindsTo s fd ⟨us,[]⟩ (ps.zip (us++ds))
theorem Binds.all {K:PySem.W.Frag} {fd:FuncData} {ps:List Str} (h:∀ us:List Value,us.length=ps.length->bindArgs fd ⟨us,[]⟩=pure (ps.zip us)):Binds K fd ps []:=fun s us _ hl=>by
 rw [List.append_nil] at hl ⊢
 exact .of_eq (h us hl)
def qY (CX:CXT) (X:Cx) (E:XK):Prop:=∀ (pins:List (Addr×Obj)) (σ : St) (H:Hp) (s:Shared) (e:Value) (s':Shared),Inv X pins σ H s->CX X.stack H s E e s'->X.xe e s'
section
variable {X:Cx} {CX:CXT} {k:Nat} {f C:Addr} {fd:FuncData} {ps:List Str} {sp:Sp} {dvs:List V} {ds:List Value} {E:XK} {x m:Str} {p pos apos:Pos} {e o:Expr} {es:List Expr} {ta:TE} {t:TA}
theorem MN {pins:List (Addr×Obj)} {σ : St} {H:Hp} {s:Shared} {Q:VK} {us:List Value} {vs:List V} (F:FnOk X.prog X.w X.K X.mg X.base CX k f fd ps sp) (hr:Room k X.A) (hb:Binds X.K fd ps ds) (hd:Vals dvs ds) (hx:qY CX X E)
  (I:Inv X pins σ H s) (r:Vals vs us) (h:sp (vs++dvs) H Q E):wpAny (model X.prog X.w) X.A (call (.ref f) us) (EP X pins σ Q) X.xe s:=by
 have r2:Vals (vs++dvs) (us++ds):=r.append hd
 have hl:(us++ds).length=ps.length:=by rw [← r2.length];exact F.len _ _ _ _ h
 refine wpAny_call (codeAny_mono (F.run X.A X.stack s H ⟨us,[]⟩ (us++ds) (vs++dvs) Q E hr I.env0 (hb s us I.kIn hl) r2 h) fun r s' hq=>?_)
 cases r with
 | error e=>exact hx pins σ H s e s' I hq
 | ok fl=>
  cases fl with
  | ret u=>exact I.after hq
  | next=>exact False.elim hq
  | brk=>exact False.elim hq
  | cont=>exact False.elim hq
theorem Bc (F:FnOk X.prog X.w X.K X.mg X.base CX k f fd ps sp) (hr:Room k X.A) (hg:Gl X x) (hm:X.mg x=some (.ref f)) (hk:PySem.W.keepIn X.K (.ref f)=true) (hb:Binds X.K fd ps ds) (hd:Vals dvs ds) (hx:qY CX X E)
  (ha:PA X (e :: es) t) (hdb:(x==("__debug__" : Str))=false:=by decide) (he:starEach (e :: es) X.env=(false,eval e X.env) :: starEach es X.env:=by rfl) (hpl:(backTo pos (starEach es X.env)).any (·.1)=false:=by rfl) :
  PE X (.Call (.Name x p) (e :: es) [] pos) (Qi sp dvs E t):=by
 intro pins s σ H Q I h
 refine wpAny_Call_Name_kw (HQ I hg hm ?_ hdb)
 refine PySem.W.callWith_K (h₀:=X.base) I.ok.mod.kin hk (thn (ha pos pins s σ H _ I h) fun us s1 ⟨vs,H1,I1,r,q⟩=>⟨I1.kIn,?_⟩) he hpl
 exact MN F hr hb hd hx I1 r q
structure Mk (K:PySem.W.Frag) (C f:Addr):Prop where
 makes:PySem.W.makesIn K C=true
 init:PySem.W.findIn K (.ref C) "__init__" = some (some (.ref f))
 fn:PySem.W.isFn K (.ref f)=true
 kp:PySem.W.keepIn K (.ref C)=true
end
section
variable {X:Cx} {CX:CXT} {k:Nat} {f C:Addr} {fd:FuncData} {ps ks:List Str} {sp:Sp} {E:XK} {x m:Str} {p pos apos kpos:Pos} {e o:Expr} {es:List Expr} {kws:List Keyword} {te ta:TE} {t tk:TA} {nm:Option Str}
structure KBinds (K:PySem.W.Frag) (fd:FuncData) (ps ks:List Str) (g:List Value->List Value->List Value) (gV:List V->List V->List V):Prop where
 to:∀ (s:Shared) (us ws:List Value),K.In s.heap->(g us ws).length=ps.length->BindsTo s fd ⟨us,ks.zip ws⟩ (ps.zip (g us ws))
 rel:∀ {vs:List V} {us:List Value} {zs:List V} {ws:List Value},Vals vs us->Vals zs ws->Vals (gV vs zs) (g us ws)
variable {g:List Value->List Value->List Value} {gV:List V->List V->List V}
end
structure FnScope (N P:List Str) (sc:Scope):Prop where
 kind:sc.kind = .function
 co:sc.isCoroutine=false
 gen:sc.isGenerator=false
 nd:N.Nodup
 pre:N.take P.length=P
 par:∀ x∈P,sc.names.lookup x=some .local∨sc.names.lookup x=some .cell
 nofree:∀ y∈sc.names,y.2 ≠ .free
theorem ul {kindOf:Str->Option NameKind} {x:Str}:∀ {binds:List (Str×Value)} {m:Str->Option Value},(∀ v,(x,v) ∉ binds)->bindL kindOf binds m x=m x
 | [],_,_=>rfl
 | (n,v) :: r,m,h=>by
  unfold bindL
  rw [ul fun w hw=>h w (List.mem_cons_of_mem _ hw)]
  split
  ·have:x≠n:=by rintro rfl;exact h v List.mem_cons_self
   simp [this]
  ·rfl
theorem ug {kindOf:Str->Option NameKind} {x:Str}:∀ {binds:List (Str×Value)} {m:Str->Option Value},(∀ v,(x,v) ∉ binds)->bindC kindOf binds m x=m x
 | [],_,_=>rfl
 | (n,v) :: r,m,h=>by
  unfold bindC
  rw [ug fun w hw=>h w (List.mem_cons_of_mem _ hw)]
  split
  ·rfl
  ·have:x≠n:=by rintro rfl;exact h v List.mem_cons_self
   simp [this]
theorem uh {kindOf:Str->Option NameKind} {x:Str} {v:Value}:∀ {P:List Str} {vs:List Value} {i:Nat} {m:Str->Option Value},P.Nodup->P[i]? = some x->vs[i]? = some v->kindOf x=some .local ->
  bindL kindOf (P.zip vs) m x=some v
 | [],_,_,_,_,h,_,_=>by simp at h
 | _ :: _,[],_,_,_,_,h,_=>by simp at h
 | p :: P,w :: vs,0,m,nd,h1,h2,hk=>by
  simp at h1 h2;subst h1;subst h2
  show bindL kindOf ((p,w) :: P.zip vs) m p=_
  unfold bindL
  rw [ul fun v hv=>(List.nodup_cons.mp nd).1 (List.of_mem_zip hv).1,if_pos hk]
  simp
 | p :: P,w :: vs,i+1,m,nd,h1,h2,hk=>by
  show bindL kindOf ((p,w) :: P.zip vs) m x=_
  unfold bindL
  exact uh (i:=i) (List.nodup_cons.mp nd).2 (by simpa using h1) (by simpa using h2) hk
theorem uf {kindOf:Str->Option NameKind} {x:Str} {v:Value}:∀ {P:List Str} {vs:List Value} {i:Nat} {m:Str->Option Value},P.Nodup->P[i]? = some x->vs[i]? = some v->kindOf x≠some .local ->
  bindC kindOf (P.zip vs) m x=some v
 | [],_,_,_,_,h,_,_=>by simp at h
 | _ :: _,[],_,_,_,_,h,_=>by simp at h
 | p :: P,w :: vs,0,m,nd,h1,h2,hk=>by
  simp at h1 h2;subst h1;subst h2
  show bindC kindOf ((p,w) :: P.zip vs) m p=_
  unfold bindC
  rw [ug fun v hv=>(List.nodup_cons.mp nd).1 (List.of_mem_zip hv).1,if_neg hk]
  simp
 | p :: P,w :: vs,i+1,m,nd,h1,h2,hk=>by
  show bindC kindOf ((p,w) :: P.zip vs) m x=_
  unfold bindC
  exact uf (i:=i) (List.nodup_cons.mp nd).2 (by simpa using h1) (by simpa using h2) hk
def start (N:List Str) (vs:List V):St:=vs.map some++List.replicate (N.length - vs.length) none
def qp (CX:CXT) (P:Program) (w:World) (K:PySem.W.Frag) (mg:Str->Option Value) (base:Heap) (N:List Str) (qual:Str) (scope:Scope) (f:Addr) (cd:Value) (A:Around) (outer:List Env) (s:Shared) (H:Hp) (E:XK):Cx where
 prog:=P
 w:=w
 K:=K
 mg:=mg
 base:=base
 A:=A.deeper (envOfC qual scope s.heap.objs.size f cd)
 N:=N
 s₀:=s
 H₀:=H
 env:=envOfC qual scope s.heap.objs.size f cd
 outer:=outer
 stack:=envOfC qual scope s.heap.objs.size f cd :: outer
 ex:=[]
 calm:=true
 fn:=fun _=>true
 pn:=[]
 xe:=fun e s'=>wpAny (model P w) (A.deeper (envOfC qual scope s.heap.objs.size f cd)) (leaving (envOfC qual scope s.heap.objs.size f cd) e) (fun _ s''=>CX outer H s E e s'') (fun e' s''=>CX outer H s E e' s'') s'
theorem wA {sc:Scope} {n:Nat} {x:Str} (h:sc.names.lookup x=some .cell):∃ c,(cellsFrom n sc.names []).lookup x=some c:=by
 have q:=PySem.W.cellsFrom_some sc.names n [] (.inl h)
 exact Option.isSome_iff_exists.mp q
theorem Cw {CX:CXT} {P:Program} {w:World} {K:PySem.W.Frag} {mg:Str->Option Value} {base:Heap} {N ps:List Str} {qual:Str} {scope:Scope} {f:Addr} {cd:Value} {A:Around} {outer:List Env} {s s1:Shared} {H:Hp} {E:XK} {us:List Value} {vs:List V}
  (S:FnScope N ps scope) (hd:A.handled=none) (e0:Env0 P w K mg base A outer s H) (hl:vs.length=ps.length) (r:Vals vs us)
  (x:InCallC s s.heap.objs.size (bindL (envOfC qual scope s.heap.objs.size f cd).kindOf (ps.zip us) fun _=>none) (cellsFrom (s.heap.objs.size+1) scope.names []) (bindC (envOfC qual scope s.heap.objs.size f cd).kindOf (ps.zip us) fun _=>none) s1) :
  Inv (qp CX P w K mg base N qual scope f cd A outer s H E) [] (start N vs) H s1:=by
 have hpl:ps.length<=N.length:=by have:=congrArg List.length S.pre;rw [List.length_take] at this;omega
 obtain ⟨h1,tk,rfl,hk⟩:=x.done
 have noA:∀ b:Addr,b ∉ (qp CX P w K mg base N qual scope f cd A outer s H E).ex:=fun b z=>absurd (show b∈([]:List Addr) from z) (by simp)
 refine ⟨⟨e0.mod,S.kind,rfl,rfl,Nat.le_refl _,fun y z c h1 h2=>?_,fun y hy=>?_,fun y c _ h=>?_,fun _=>hd,Around.frames_deeper e0.frames,.inr ⟨rfl,rfl⟩,fun b z=>absurd z (noA b),e0.bs,e0.bsz,fun b _ _=>noA b,fun b z=>absurd z (noA b),e0.funs,e0.frf⟩,
  rfl,e0.bare,Un.kept hk,⟨_,x.toInCall.ns,fun i y v h1 h2 h3=>?_⟩,fun y c h=>⟨_,x.cell y c h⟩,e0.hok.fresh (Nat.le_refl _),fun y c h=>?_,fun p hp=>absurd (show p∈([]:List (Addr×Obj)) from hp) (by simp),e0.hok.kept hk,?_⟩
 ·exact name_of_addr x.apart (PySem.mem_of_lookup h1) (PySem.mem_of_lookup h2)
 ·have hy:scope.names.lookup y=some .cell∨scope.names.lookup y=some .free:=hy
  rcases hy with hy | hy
  ·exact wA hy
  ·exact absurd rfl (S.nofree _ (PySem.mem_of_lookup hy))
 ·exact Nat.le_of_lt (x.above y c (PySem.mem_of_lookup h))
 ·have hi:i<vs.length:=by
   unfold start at h2
   by_cases hi:i<vs.length
   ·exact hi
   ·rw [List.getElem?_append_right (by simpa using hi)] at h2
    rw [List.getElem?_replicate] at h2
    split at h2 <;> cases h2
  have ha:vs[i]? = some v:=by
   unfold start at h2
   rw [List.getElem?_append_left (by simpa using hi),List.getElem?_map] at h2
   cases e:vs[i]? with
   | none=>rw [e] at h2;cases h2
   | some a=>rw [e] at h2;cases h2;rfl
  obtain ⟨u,hu,rv⟩:=r.get ha
  have hp:ps[i]? = some y:=by
   rw [← S.pre,List.getElem?_take_of_lt (by omega)];exact h1
  have ndP:ps.Nodup:=by rw [← S.pre];exact S.nd.sublist (List.take_sublist _ _)
  refine ⟨u,rv,?_⟩
  rcases S.par y (List.mem_of_getElem? hp) with k | k
  ·exact .inl ⟨k,uh ndP hp hu k⟩
  ·obtain ⟨c,e⟩:=wA (n:=s.heap.objs.size+1) k
   refine .inr ⟨.inl k,c,e,?_⟩
   have q:=x.cell y c e
   rw [uf ndP hp hu (by show scope.names.lookup y≠_;rw [k];decide)] at q
   exact q
 ·exact e0.hok.fresh (Nat.le_of_lt (x.above y c (PySem.mem_of_lookup h)))
 ·unfold start
  show _=N.length
  rw [List.length_append,List.length_map,List.length_replicate]
  omega
theorem JQ {CX:CXT} {P:Program} {w:World} {K:PySem.W.Frag} {mg:Str->Option Value} {base:Heap} {k:Nat} {f:Addr} {name qual:Str} {params:Arguments} {body:List Stmt} {scope:Scope} {dV kV doc pm cdv ct oc:Value} {an od:Option Addr}
  {osl:Array (Option Value)} {N ps:List Str} {sp:Sp} (lk:K.lookup f=some ⟨oc,od,.func (PySem.W.fnOf name qual params body scope dV kV doc pm an cdv ct),osl⟩) (hcd:PySem.W.codeIn K cdv qual=true) (S:FnScope N ps scope)
  (len:∀ vs H Q E,sp vs H Q E->vs.length=ps.length)
  (hbody:∀ (A:Around) (outer:List Env) (s:Shared) (H:Hp) (vs:List V) (Q:VK) (E:XK),Room k (A.deeper (envOfC qual scope s.heap.objs.size f cdv))->sp vs H Q E ->
   ∃ t,PSs (qp CX P w K mg base N qual scope f cdv A outer s H E) body t∧t { nx:=fun _ H'=>Q .non H',rt:=Q } (start N vs) H) :
  FnOk P w K mg base CX (k+1) f (PySem.W.fnOf name qual params body scope dV kV doc pm an cdv ct) ps sp:=by
 refine ⟨len,fun A outer s H args us vs Q E hr e0 hb r hsp=>?_⟩
 have hl:=len _ _ _ _ hsp
 have KX:K.In s.heap:=e0.mod.kin.keeps fun b o e=>(e0.bs b o e).1
 have lim:s.heap.NoLimit:=e0.mod.nolimit.keeps fun b o e=>(e0.bs b o e).1
 have hkind:∀ y∈ps.zip us,scope.names.lookup y.1=some .local∨(scope.names.lookup y.1=some .cell∧((cellsFrom (s.heap.objs.size+1) scope.names []).lookup y.1).isSome=true):=fun ⟨n,v⟩ hy=>by
  rcases S.par n (List.of_mem_zip hy).1 with q | q
  ·exact .inl q
  ·exact .inr ⟨q,PySem.W.cellsFrom_some _ _ _ (.inl q)⟩
 refine codeAny_call_function hr.depth (KX _ _ lk) rfl S.co S.gen rfl (PySem.W.codeRec_of KX hcd) (hb _ _ _ _ ?_)
 refine wpAny_newFunctionEnv_cells S.kind hkind fun env he s1 x=>?_
 subst he
 refine ⟨lim.keeps x.toInCall.keep,codeAny_func ?_⟩
 obtain ⟨t,ht,hq⟩:=hbody A outer s H vs Q E (hr.deeper _) hsp
 have I:Inv (qp CX P w K mg base N qual scope f cdv A outer s H E) [] (start N vs) H s1:=Cw S hr.hd e0 hl r x
 refine wpAny_mono (ht [] s1 (start N vs) H _ I hq) (fun fl s' hs=>?_) fun e s' hs=>hs
 have fin:∀ {σ':St} {H':Hp} {v:V} {u:Value},Inv (qp CX P w K mg base N qual scope f cdv A outer s H E) [] σ' H' s'->RelV v u->Q v H'->CE outer P w H s Q u s':=
  fun {σ' H' v u} J rv q=>⟨v,H',J.os,J.bare,J.base,J.hok,rv,q⟩
 cases fl with
 | ret u=>
  obtain ⟨v,σ',H',J,rv,q⟩:=hs
  exact fin J rv q
 | next=>
  obtain ⟨σ',H',J,q⟩:=hs
  exact fin (v:=V.non) (u:=Value.none) J rfl q
 | brk=>
  obtain ⟨_,_,_,q⟩:=hs
  exact False.elim q
 | cont=>
  obtain ⟨_,_,_,q⟩:=hs
  exact False.elim q
end L2
namespace L2
open PySem PySem.Spec PyProof.Rows
section
variable {X:Cx} {x:Str} {p pos:Pos} {e:Expr} {es:List Expr} {t:TA} {id T:String} {r:List V->Hp->VK->Prop}
def tCB (r:List V->Hp->VK->Prop) (t:TA):TE:=fun σ H Q=>t σ H fun vs H1=>r vs H1 Q
theorem Gj (hc:gq X (.builtin id) r) (hg:Gl X x) (hm:X.mg x=none) (hv:bootBuiltins x=some (.builtin id)) (ha:PA X (e :: es) t) (hn:x ≠ "__name__":=by decide) (hdb:(x==("__debug__" : Str))=false:=by decide)
  (he:starEach (e :: es) X.env=(false,eval e X.env) :: starEach es X.env:=by rfl) (hpl:(backTo pos (starEach es X.env)).any (·.1)=false:=by rfl):PE X (.Call (.Name x p) (e :: es) [] pos) (tCB r t):=by
 intro pins s σ H Q I h
 refine wpAny_Call_Name_kw (kI I hg hm hv ?_ hn hdb)
 exact PyProof.Rows.callWith_builtin1 (thn (ha pos pins s σ H _ I h) fun us s1 ⟨vs,H1,I1,r1,q1⟩=>hc pins s1 σ H1 vs us Q I1 r1 q1) he hpl
theorem Dg (hc:gq X (.type T) r) (hg:Gl X x) (hm:X.mg x=none) (hv:bootBuiltins x=some (.type T)) (ha:PA X (e :: es) t) (hn:x ≠ "__name__":=by decide) (hdb:(x==("__debug__" : Str))=false:=by decide)
  (he:starEach (e :: es) X.env=(false,eval e X.env) :: starEach es X.env:=by rfl) (hpl:(backTo pos (starEach es X.env)).any (·.1)=false:=by rfl):PE X (.Call (.Name x p) (e :: es) [] pos) (tCB r t):=by
 intro pins s σ H Q I h
 refine wpAny_Call_Name_kw (kI I hg hm hv ?_ hn hdb)
 exact PyProof.Rows.callWith_type1 (thn (ha pos pins s σ H _ I h) fun us s1 ⟨vs,H1,I1,r1,q1⟩=>hc pins s1 σ H1 vs us Q I1 r1 q1) he hpl
end
end L2
namespace HT
open PySem PyProof.Rows
section
open PySem.SeqAt
open PySem.AutoSeq1 (wpAny_loadPart')
open PySem.MeetsSeq PySem.MeetsSeq2 PySem.MeetsSeq3
end
section
variable {prog:Program} {w:World} {A:Around} {E:Value->Shared->Prop} {s:Shared}
theorem Ht {t b:Addr} {vs ws:List Value} {Q:Value->Shared->Prop} (ht:IsTup s.heap t vs.toArray) (hb:IsTup s.heap b ws.toArray) (hv:vs≠[])
  (h1:ws=[]->Q (.ref t) s) (h2:ws≠[]->Q (.ref s.heap.objs.size) { s with heap:=s.heap.push { cls:=.type "tuple",data:=.seq (vs++ws).toArray } })
  (hsz:vs.length+ws.length<=sizeLine):wpAny (model prog w) A (binaryOp .Add (.ref t) (.ref b)) Q E s:=by
 obtain ⟨⟨cls,dd,data,sl⟩,ho,hc,n,hd⟩:=id ht
 obtain ⟨⟨cls2,dd2,data2,sl2⟩,ho2,hc2,n2,hd2⟩:=id hb
 simp only at hc hd hc2 hd2
 subst hc hd hc2 hd2
 have e:vs.toArray++ws.toArray=(vs++ws).toArray:=by simp
 by_cases hw:ws=[]
 ·exact concat_meets ⟨_,ho,rfl⟩ ⟨_,ho2,rfl⟩ noFill_tuple_add seq_tuple_add PySem.F.slot_tuple_add PySem.F.entry_tuple_add (PySem.F.args_tuple_add_2 _ _)
   (tuple_addW1 t b vs.toArray ws.toArray n n2 dd dd2 sl sl2 (by simpa using hv) (by simp [hw])) ⟨ho,ho2,h1 hw⟩
 ·refine concat_meets ⟨_,ho,rfl⟩ ⟨_,ho2,rfl⟩ noFill_tuple_add seq_tuple_add PySem.F.slot_tuple_add PySem.F.entry_tuple_add (PySem.F.args_tuple_add_2 _ _)
   (tuple_addW2 t b vs.toArray ws.toArray n n2 dd dd2 sl sl2 (by simpa using hv) (by simpa using hw) (by rw [List.size_toArray,List.size_toArray];exact hsz)) ⟨ho,ho2,?_⟩
  rw [e]
  exact h2 hw
def sIx (n d:Nat):Option Int->Nat
 | none=>d
 | some v=>if v<0 then (v+(n:Int)).toNat else min v.toNat n
theorem Nb (n d:Nat) (hd:d<=n) (o:Option Int):sIx n d o<=n:=by
 cases o with
 | none=>exact hd
 | some v=>
  show (if v<0 then (v+(n:Int)).toNat else min v.toNat n)<=n
  by_cases hv:v<0
  ·rw [if_pos hv];omega
  ·rw [if_neg hv];exact Nat.min_le_right _ _
theorem zR (v:Int) (n d:Nat):(if v<0 then max (v+(n:Int)) 0 else min v (n:Int))=((sIx n d (some v):Nat):Int):=by
 show (if v<0 then max (v+(n:Int)) 0 else min v (n:Int))=(((if v<0 then (v+(n:Int)).toNat else min v.toNat n):Nat):Int)
 by_cases hv:v<0
 ·simp only [if_pos hv];omega
 ·simp only [if_neg hv];omega
theorem yI (lo hi:Option Int) (n:Nat):Builtin.Slice.sliceAdjust lo hi 1 (n:Int)=(((sIx n 0 lo:Nat):Int),((sIx n n hi:Nat):Int)):=by
 have h1:¬ ((1:Int)<0):=by omega
 unfold Builtin.Slice.sliceAdjust
 simp only [h1,if_false]
 refine Prod.ext ?_ ?_
 ·cases lo with
  | none=>rfl
  | some v=>exact zR v n 0
 ·cases hi with
  | none=>rfl
  | some v=>exact zR v n n
theorem zy (i j:Nat):Builtin.Slice.slicePlaces (i:Int) (j:Int) 1=j - i:=by
 unfold Builtin.Slice.slicePlaces
 have h1:(1:Int)>0:=by omega
 simp only [h1,if_true,Int.ediv_one]
 split <;> omega
theorem jl {v:Value} {o:Option Int} {Q:Option Int->Shared->Prop} (p:IsPart v o) (h:Q o s):wpAny (model prog w) A (Builtin.Slice.slicePartIndex v) Q E s:=by
 cases p with
 | none=>exact slicePart_none h
 | int i t=>exact slicePart_int h
theorem kh {sl:Addr} {vl vu:Value} {lo hi:Option Int} {n:Nat} {Q:Int×Int×Nat->Shared->Prop} (hs:s.heap.IsSliceOf sl vl vu .none) (pl:IsPart vl lo) (pu:IsPart vu hi)
  (h:Q (((sIx n 0 lo:Nat):Int),1,sIx n n hi - sIx n 0 lo) s):wpAny (model prog w) A (Builtin.Slice.sliceApplied (.ref sl) (pure (n:Int))) Q E s:=by
 obtain ⟨os,hos,hcs,hds⟩:=id hs
 unfold Builtin.Slice.sliceApplied Builtin.Slice.sliceFields
 refine wpAny_bind (wpAny_bind (wpAny_field hos hds (x:=vl) rfl (wpAny_bind (wpAny_field hos hds (x:=vu) rfl (wpAny_bind (wpAny_field hos hds (x:=.none) rfl (wpAny_pure ?_)))))))
 refine wpAny_bind (slicePart_none ?_)
 show wpAny _ _ (if ((1:Int)==0)=true then _ else _) _ _ s
 rw [if_neg (by decide)]
 refine wpAny_bind (jl pl (wpAny_bind (jl pu (wpAny_bind (wpAny_pure ?_)))))
 show wpAny _ _ (match Builtin.Slice.sliceAdjust lo hi 1 (n:Int) with | (lo,hi)=>pure (lo,(1:Int),Builtin.Slice.slicePlaces lo hi 1)) _ _ s
 rw [yI lo hi n]
 show wpAny _ _ (pure (((sIx n 0 lo:Nat):Int),(1:Int),Builtin.Slice.slicePlaces ((sIx n 0 lo:Nat):Int) ((sIx n n hi:Nat):Int) 1)) _ _ s
 rw [zy]
 exact wpAny_pure h
theorem Gq (xs:Array Value) (i k:Nat):((List.range k).filterMap fun (m:Nat)=>xs[((i:Int)+(m:Int)*1).toNat]?).toArray=((xs.toList.drop i).take k).toArray:=by
 have e:(fun (m:Nat)=>xs[((i:Int)+(m:Int)*1).toNat]?)=fun m=>xs[i+m]?:=by
  funext m
  have:((i:Int)+(m:Int)*1).toNat=i+m:=by omega
  rw [this]
 rw [e]
 have:=pick_run xs i k
 rw [List.filterMap_map] at this
 have e2:((fun x=>xs[x]?) ∘ fun x=>i+x)=fun m=>xs[i+m]?:=rfl
 rw [e2] at this
 rw [this]
theorem nP {t sl:Addr} {items:Array Value} {vl vu:Value} {lo hi:Option Int} {Q:Value->Shared->Prop} (ht:IsTup s.heap t items) (hs:s.heap.IsSliceOf sl vl vu .none) (pl:IsPart vl lo) (pu:IsPart vu hi)
  (hw:¬ (sIx items.size 0 lo=0∧sIx items.size items.size hi=items.size))
  (h:Q (.ref s.heap.objs.size) { s with heap:=s.heap.push { cls:=.type "tuple",data:=.seq ((items.toList.drop (sIx items.size 0 lo)).take (sIx items.size items.size hi - sIx items.size 0 lo)).toArray } })
  (hsz:items.size<=sizeLine):wpAny (model prog w) A (getItem (.ref t) (.ref sl)) Q E s:=by
 have htake:sizeOk (.seq ((items.toList.drop (sIx items.size 0 lo)).take (sIx items.size items.size hi - sIx items.size 0 lo)).toArray):=by
  show ((items.toList.drop (sIx items.size 0 lo)).take (sIx items.size items.size hi - sIx items.size 0 lo)).toArray.size<=sizeLine
  rw [List.size_toArray,List.length_take,List.length_drop,Array.length_toList]
  omega
 have hj:sIx items.size items.size hi<=items.size:=Nb _ _ (Nat.le_refl _) hi
 obtain ⟨os,hos,hcs,hds⟩:=id hs
 have hTs:s.TypeIs (.ref sl) "slice":=⟨os,hos,hcs⟩
 unfold getItem
 try with_reducible refine wpAny_holding ?_
 first | refine wpAny_bind (wpAny_pure ?_) | skip
 refine wpAny_bind (wpAny_sequenceKey ht.typeIs (by decide) ?_)
 refine wpAny_bind (wpAny_callSpecial?_slot (name:=Str.ofString "__getitem__") ht.typeIs PyProof.Rows.slot_tuple_getitem
  (wpAny_call_entry PyProof.Rows.slot_tuple_getitem ht.typeIs entry_tuple_getitem ?_ (args_tuple_getitem _ _)))
 show wpAny _ _ (Builtin.Tuple.tupleItemsOf (.ref t) >>= _) _ _ s
 refine wpAny_bind (tupleItemsOf_ ht ?_)
 refine wpAny_bind (wpAny_typeOf hTs ?_)
 rw [if_pos (by decide)]
 refine wpAny_bind (kh hs pl pu ?_)
 have hno:¬ ((((sIx items.size 0 lo:Nat):Int)==0&&(1:Int)==1&&(sIx items.size items.size hi - sIx items.size 0 lo)==items.size)=true):=by
  intro q
  rw [Bool.and_eq_true,Bool.and_eq_true] at q
  have q1:((sIx items.size 0 lo:Nat):Int)=0:=eq_of_beq q.1.1
  have q2:sIx items.size items.size hi - sIx items.size 0 lo=items.size:=eq_of_beq q.2
  exact hw ⟨by omega,by omega⟩
 show wpAny _ _ (if (((sIx items.size 0 lo:Nat):Int)==0&&(1:Int)==1&&(sIx items.size items.size hi - sIx items.size 0 lo)==items.size)=true then _ else _) _ _ s
 rw [if_neg hno,Gq]
 first
  | exact wpAny_bind (m:=Builtin.Tuple.tupleExact _) (wpAny_newObj_type (wpAny_pure ⟨_,rfl,wpAny_pure h⟩) htake)
  | exact wpAny_bind (m:=Builtin.Tuple.tupleExact _) (wpAny_newObj_type (wpAny_bind (wpAny_pure (wpAny_pure ⟨_,rfl,wpAny_pure h⟩))) htake)
  | exact wpAny_bind (wpAny_bind (m:=Builtin.Tuple.tupleExact _) (wpAny_newObj_type (wpAny_pure (wpAny_pure ⟨_,rfl,wpAny_pure h⟩)) htake))
  | exact wpAny_bind (wpAny_bind (m:=Builtin.Tuple.tupleExact _) (wpAny_newObj_type (wpAny_pure ⟨_,rfl,wpAny_pure h⟩) htake))
end
end HT
namespace L2
open PySem PySem.Spec PyProof.Rows
abbrev TO:=St->Hp->(Option Int->Hp->Prop)->Prop
def PO (X:Cx) (e:Option Expr) (t:TO):Prop:=
 ∀ (pins:List (Addr×Obj)) (s:Shared) (σ : St) (H:Hp) (Q:Option Int->Hp->Prop),Inv X pins σ H s->t σ H Q ->
  wpAny (model X.prog X.w) X.A (evalPart e X.env) (fun u s'=>∃ o H',Inv X pins σ H' s'∧IsPart u o∧Q o H') X.xe s
def Jv:TO:=fun _ H Q=>Q none H
def Qo (t:TE):TO:=fun σ H Q=>t σ H fun x H1=>∃ i,x = .int i∧Q (some i) H1
theorem intsAre_of {ns:List Int}:∀ {us:List Value},Vals (ns.map V.int) us->IntsAre us ns:=by
 induction ns with
 | nil=>intro us r;rw [List.map_nil] at r;cases r;exact .nil
 | cons n ns ih=>
  intro us r
  rw [List.map_cons] at r
  cases r with
  | cons r1 r2=>
   obtain ⟨t,e⟩:=r1
   subst e
   exact .cons n t (ih r2)
section
variable {X:Cx} {e:Expr} {te:TE} {lo hi:Option Expr} {tl th:TO} {pos p2:Pos}
theorem Bf:PO X none Jv:=by
 intro pins s σ H Q I h
 rw [evalPart_none]
 exact wpAny_pure ⟨none,H,I,.none,h⟩
theorem Bg (h:PE X e te):PO X (some e) (Qo te):=by
 intro pins s σ H Q I hw
 rw [evalPart_some]
 refine thn (h pins s σ H _ I hw) fun u s1 ⟨x,H1,I1,r1,q1⟩=>?_
 obtain ⟨i,rfl,q⟩:=q1
 obtain ⟨t,rfl⟩:=r1
 exact ⟨some i,H1,I1,.int i t,q⟩
def SlR (X:Cx) (r:V->Option Int->Option Int->Hp->VK->Prop):Prop:=
 ∀ (pins:List (Addr×Obj)) (s:Shared) (σ : St) (H:Hp) (x:V) (v vl vu:Value) (lo hi:Option Int) (sl:Addr) (Q:VK),Inv X pins σ H s->RelV x v->s.heap.IsSliceOf sl vl vu .none->IsPart vl lo->IsPart vu hi->r x lo hi H Q ->
  ∃ T id,typeLookup (.type T) "__getitem__" = pure (some (.builtin id))∧s.TypeIs v T∧wpAny (model X.prog X.w) X.A (getItem v (.ref sl)) (EP X pins σ Q) X.xe s
theorem SlR.or {r r':V->Option Int->Option Int->Hp->VK->Prop} (h:SlR X r) (h':SlR X r'):SlR X (fun x lo hi H Q=>r x lo hi H Q∨r' x lo hi H Q):=by
 intro pins s σ H x v vl vu lo hi sl Q I rx hs pl pu q
 rcases q with q | q
 ·exact h pins s σ H x v vl vu lo hi sl Q I rx hs pl pu q
 ·exact h' pins s σ H x v vl vu lo hi sl Q I rx hs pl pu q
def tSl (r:V->Option Int->Option Int->Hp->VK->Prop) (te:TE) (tl th:TO):TE:=fun σ H Q=>te σ H fun x H1=>tl σ H1 fun l H2=>th σ H2 fun u H3=>r x l u H3 Q
theorem yg {r:V->Option Int->Option Int->Hp->VK->Prop} (hr:SlR X r) (he:PE X e te) (hl:PO X lo tl) (hu:PO X hi th):PE X (.Subscript e (.Slice lo hi none p2) pos) (tSl r te tl th):=by
 intro pins s σ H Q I h
 refine Subscript_ (thn (he pins s σ H _ I h) fun v s1 ⟨x,H1,I1,r1,q1⟩=>?_)
 refine wpAny_Slice (thn (hl pins s1 σ H1 _ I1 q1) fun vl s2 ⟨l,H2,I2,pl,q2⟩=>thn (hu pins s2 σ H2 _ I2 q2) fun vu s3 ⟨u,H3,I3,pu,q3⟩=>?_)
 rw [evalPart_none]
 refine wpAny_pure ?_
 have I4:Inv X pins σ H3 { s3 with heap:=s3.heap.push { cls:=.type "slice",data:=.fields #[vl,vu,.none] } }:=I3.kept (t':=s3.toks) fun b ob q=>Heap.get?_push_of_some _ q
 obtain ⟨T,id,hT,ht,hg⟩:=hr pins { s3 with heap:=s3.heap.push { cls:=.type "slice",data:=.fields #[vl,vu,.none] } } σ H3 x v vl vu l u s3.heap.objs.size Q I4 r1 (Heap.IsSliceOf.new ..) pl pu q3
 show wpAny (model X.prog X.w) X.A (subscriptTail e (.Slice lo hi none p2) v (.ref s3.heap.objs.size)) (EP X pins σ Q) X.xe { s3 with heap:=s3.heap.push { cls:=.type "slice",data:=.fields #[vl,vu,.none] } }
 exact tail_any (ops:=[.ref s3.heap.objs.size,v]) ht hT hg (by with_unfolding_all rfl)
def wH (xs:List V) (lo hi:Option Int):List V:=(xs.drop (HT.sIx xs.length 0 lo)).take (HT.sIx xs.length xs.length hi - HT.sIx xs.length 0 lo)
theorem pY (xs:List V) (lo hi:Option Int):(wH xs lo hi).length<=xs.length:=by
 unfold wH
 rw [List.length_take,List.length_drop]
 omega
def Px (K:PySem.W.Frag):V->Option Int->Option Int->Hp->VK->Prop:=fun x lo hi H Q=>∃ a xs,x = .ref a∧SqT K H a xs ∧
 ¬ (HT.sIx xs.length 0 lo=0∧HT.sIx xs.length xs.length hi=xs.length) ∧ ∀ p,H p=none->Q (.ref p) (upd H p (.tup (wH xs lo hi)))
theorem Nj:SlR X (Px X.K):=by
 intro pins s σ H x v vl vu lo hi sl Q I rx hs pl pu h
 obtain ⟨a,xs,rfl,hx,hw,q⟩:=h
 cases rx
 obtain ⟨its,r,ht,hz⟩:=I.tuple hx
 have hlen:its.toArray.size=xs.length:=by rw [List.size_toArray];exact r.length.symm
 refine ⟨"tuple",_,PyProof.Rows.slot_tuple_getitem.lookup,ht.typeIs,?_⟩
 refine HT.nP ht hs pl pu (by rw [hlen];exact hw) ?_ (by rw [hlen];exact hz)
 rw [hlen]
 refine ⟨.ref s.heap.objs.size,_,I.laid (t':=s.toks) (o:=.tup (wH xs lo hi)) (fun b ob q=>Heap.get?_push_of_some _ q) (Nat.le_refl _) ?_,rfl,q _ (I.hok.fresh (Nat.le_refl _))⟩
 exact ⟨Nat.le_trans (pY xs lo hi) hz,_,(r.drop (HT.sIx xs.length 0 lo)).take (HT.sIx xs.length xs.length hi - HT.sIx xs.length 0 lo),IsTup.new _ _⟩
def Ka (K:PySem.W.Frag):R2:=fun x y H Q=>∃ a b xs ys,x = .ref a∧y = .ref b∧SqT K H a xs∧SqT K H b ys∧xs≠[]∧xs.length+ys.length<=sizeLine ∧
 (ys=[]->Q (.ref a) H)∧(ys≠[] -> ∀ p,H p=none->Q (.ref p) (upd H p (.tup (xs++ys))))
theorem Vals.nil_iff {xs:List V} {us:List Value} (r:Vals xs us):us=[]↔xs=[]:=by
 cases r with
 | nil=>simp
 | cons _ _=>simp
theorem Il:OpR X (binaryOp .Add) (Ka X.K):=by
 intro pins s σ H x y v u Q I rx ry h
 obtain ⟨a,b,xs,ys,rfl,rfl,ha,hb,hx,hz,q1,q2⟩:=h
 cases rx
 cases ry
 obtain ⟨its,r1,p1,_⟩:=I.tuple ha
 obtain ⟨its2,r2,p2,_⟩:=I.tuple hb
 refine HT.Ht p1 p2 (fun z=>hx (r1.nil_iff.mp z)) (fun z=>⟨.ref a,H,I,rfl,q1 (r2.nil_iff.mp z)⟩) (fun z=>?_) (by rw [← r1.length,← r2.length];exact hz)
 refine ⟨.ref s.heap.objs.size,_,I.laid (t':=s.toks) (o:=.tup (xs++ys)) (fun b ob q=>Heap.get?_push_of_some _ q) (Nat.le_refl _) ?_,rfl,q2 (fun w=>z (r2.nil_iff.mpr w)) _ (I.hok.fresh (Nat.le_refl _))⟩
 exact ⟨by rw [List.length_append];exact hz,_,r1.append r2,IsTup.new _ _⟩
end
end L2
namespace L2
open PySem PySem.Spec PyProof.Rows
def ixN (n:Nat) (i:Int):Option Nat:=if 0<=i then (if i<n then some i.toNat else none) else if -(n:Int)<=i then some (i+n).toNat else none
def atI {α : Type} (xs:List α) (i:Int):Option α:=(ixN xs.length i).bind fun j=>xs[j]?
theorem vh {n:Nat} {i:Int} {j:Nat} (h:ixN n i=some j):seqIndex? i n=some j∧j<n ∧ -(n:Int)<=i∧i<n:=by
 unfold ixN at h
 by_cases h0:0<=i
 ·rw [if_pos h0] at h
  by_cases h1:i<n
  ·rw [if_pos h1] at h
   have e:i.toNat=j:=Option.some.inj h
   exact ⟨by rw [seqIndex_of h0 h1,e],by omega,by omega,h1⟩
  ·rw [if_neg h1] at h;cases h
 ·rw [if_neg h0] at h
  by_cases h1 : -(n:Int)<=i
  ·rw [if_pos h1] at h
   have e:(i+n).toNat=j:=Option.some.inj h
   exact ⟨by rw [seqIndex_neg (by omega) h1,e],by omega,h1,by omega⟩
  ·rw [if_neg h1] at h;cases h
theorem uT {α : Type} {xs:List α} {i:Int} {v : α} (h:atI xs i=some v):∃ j,seqIndex? i xs.length=some j∧xs[j]? = some v∧j<xs.length ∧ -(xs.length:Int)<=i∧i<xs.length:=by
 unfold atI at h
 cases e:ixN xs.length i with
 | none=>rw [e] at h;cases h
 | some j=>
  rw [e] at h
  obtain ⟨h1,h2,h3,h4⟩:=vh e
  exact ⟨j,h1,h,h2,h3,h4⟩
theorem ni {α : Type} {xs:List α} {j:Nat} {v : α} (h:xs[j]? = some v):atI xs (j:Int)=some v:=by
 have hj:j<xs.length:=(List.getElem?_eq_some_iff.mp h).1
 have e:ixN xs.length (j:Int)=some j:=by
  unfold ixN
  rw [if_pos (by omega),if_pos (by omega)];simp
 unfold atI;rw [e];exact h
def uR (b:Expr):Prop:=∀ o i,subscripted b false o i=operate [o,i] (getItem o i)
def IxR (X:Cx) (r:R2):Prop:=
 ∀ (value slice:Expr) (pins:List (Addr×Obj)) (s:Shared) (σ : St) (H:Hp) (x y:V) (v u:Value) (Q:VK),Inv X pins σ H s->RelV x v->RelV y u->r x y H Q ->
  subscripted slice false v u=operate [v,u] (getItem v u)->wpAny (model X.prog X.w) X.A (subscriptTail value slice v u) (EP X pins σ Q) X.xe s
def MtR (X:Cx) (id:String) (r:V->List V->Hp->VK->Prop):Prop:=
 ∀ (pins:List (Addr×Obj)) (s:Shared) (σ : St) (H:Hp) (x:V) (xs:List V) (v:Value) (us:List Value) (Q:VK),Inv X pins σ H s->RelV x v->Vals xs us->r x xs H Q ->
  wpAny (model X.prog X.w) X.A (call (.builtin id) (v :: us)) (EP X pins σ Q) X.xe s
section
variable {X:Cx} {a b:Expr} {ta tb:TE} {pos:Pos}
theorem IxR.or {r r':R2} (h:IxR X r) (h':IxR X r'):IxR X (fun x y H Q=>r x y H Q∨r' x y H Q):=by
 intro value slice pins s σ H x y v u Q I rx ry q hs
 rcases q with q | q
 ·exact h value slice pins s σ H x y v u Q I rx ry q hs
 ·exact h' value slice pins s σ H x y v u Q I rx ry q hs
theorem MtR.or {id:String} {r r':V->List V->Hp->VK->Prop} (h:MtR X id r) (h':MtR X id r'):MtR X id (fun x xs H Q=>r x xs H Q∨r' x xs H Q):=by
 intro pins s σ H x xs v us Q I rx rs q
 rcases q with q | q
 ·exact h pins s σ H x xs v us Q I rx rs q
 ·exact h' pins s σ H x xs v us Q I rx rs q
theorem JZ {r:R2} (hr:IxR X r) (ha:PE X a ta) (hb:PE X b tb) (hs:uR b):PE X (.Subscript a b pos) (tOp r ta tb):=by
 intro pins s σ H Q I h
 exact Subscript_ (Kl ha hb I h fun v u s2 x y H2 I2 rx ry q=>hr a b pins s2 σ H2 x y v u Q I2 rx ry q (hs _ _))
def Ph (K:PySem.W.Frag):R2:=fun x y H Q=>∃ p xs i v,x = .ref p∧y = .int i∧SqL K H p xs∧atI xs i=some v∧Q v H
def Pk (K:PySem.W.Frag):R2:=fun x y H Q=>∃ p xs i v,x = .ref p∧y = .int i∧SqT K H p xs∧atI xs i=some v∧Q v H
def Pj:R2:=fun x y H Q=>∃ z i c,x = .str z∧y = .int i∧z.length<=sizeLine∧atI z.cps.toList i=some c∧Q (.str ⟨#[c]⟩) H
theorem HH:IxR X (Ph X.K):=by
 intro value slice pins s σ H x y v u Q I rx ry h hs
 obtain ⟨p,xs,i,z,rfl,rfl,hq,he,q⟩:=h
 cases rx
 obtain ⟨t,rfl⟩:=ry
 obtain ⟨its,r,pl,hz⟩:=I.list hq
 obtain ⟨j,h1,h2,h3,h4,h5⟩:=uT he
 obtain ⟨w,ew,rw'⟩:=r.get h2
 have hl:=r.length
 have hn:=mH
 have fin:EP X pins σ Q w s:=⟨z,H,I,rw',q⟩
 by_cases h0:0<=i
 ·have hj:i.toNat=j:=by
   rw [seqIndex_of h0 h5] at h1
   exact Option.some.inj h1
  exact item_listR pl.isList h0 (by omega) (by rw [hj];simpa using ew) fin hs
 ·have hj:(i+(its.toArray.size:Int)).toNat=j:=by
   rw [seqIndex_neg (by omega) h4] at h1
   rw [List.size_toArray,← hl]
   exact Option.some.inj h1
  exact subscriptTail_builtinR (x:=w) pl.isList.typeIs slot_list_getitem.lookup
   (wpAny_getItem_list_neg (Q:=fun r s'=>r=w∧EP X pins σ Q r s') pl.isList (by omega) (by rw [List.size_toArray] <;> omega) (by omega) (by rw [hj];simpa using ew) ⟨rfl,fin⟩) hs
theorem KQ:IxR X (Pk X.K):=by
 intro value slice pins s σ H x y v u Q I rx ry h hs
 obtain ⟨p,xs,i,z,rfl,rfl,hq,he,q⟩:=h
 cases rx
 obtain ⟨t,rfl⟩:=ry
 obtain ⟨its,r,pl,hz⟩:=I.tuple hq
 obtain ⟨j,h1,h2,h3,h4,h5⟩:=uT he
 obtain ⟨w,ew,rw'⟩:=r.get h2
 have hl:=r.length
 have hn:=mH
 have fin:EP X pins σ Q w s:=⟨z,H,I,rw',q⟩
 exact subscriptTail_builtinR (x:=w) pl.typeIs slot_tuple_getitem.lookup
  (getItem_tuple (j:=j) (Q:=fun r s'=>r=w∧EP X pins σ Q r s') pl (by omega) (by omega) (by rw [List.size_toArray,← hl];exact h1) (by simpa using ew) ⟨rfl,fin⟩) hs
theorem KN:IxR X Pj:=by
 intro value slice pins s σ H x y v u Q I rx ry h hs
 obtain ⟨z,i,c,rfl,rfl,hz,he,q⟩:=h
 obtain ⟨t,rfl⟩:=rx
 obtain ⟨t',rfl⟩:=ry
 obtain ⟨j,h1,h2,h3,h4,h5⟩:=uT he
 have hl:z.cps.toList.length=z.length:=by simp [Str.length]
 rw [hl] at h1 h4 h5
 have hn:=mH
 exact tail_any (typeIs_str s z t) slot_str_getitem.lookup (getItem_str (c:=c) (by
  have e1:decide (i < -(2 ^ 63:Int))=false:=decide_eq_false (by omega)
  have e2:decide (i ≥ 2 ^ 63)=false:=decide_eq_false (by omega)
  rw [e1,e2,Bool.or_false]) (by rw [h1];simpa using h2) ⟨.str ⟨#[c]⟩,H,I.tok _,⟨_,rfl⟩,q⟩) hs
def rIx (K:PySem.W.Frag):R2:=fun x y H Q=>Ph K x y H Q∨Pk K x y H Q∨Pj x y H Q
theorem gj:IxR X (rIx X.K):=HH.or (KQ.or KN)
theorem zg (its:List Value) (n j:Nat) (u:Value):Obj.mapSeq (·.setIfInBounds j u) { cls:=.type "list",data:=.seq its.toArray n }={ cls:=.type "list",data:=.seq (its.set j u).toArray n }:=by
 simp [Obj.mapSeq]
theorem Inv.lst {pins:List (Addr×Obj)} {σ : St} {H:Hp} {s:Shared} {p:Addr} {xs:List V} (I:Inv X pins σ H s) (h:H p=some (.lst xs)) :
  ∃ (its:List Value) (n:Nat),Vals xs its∧s.heap.get? p=some { cls:=.type "list",data:=.seq its.toArray n }∧xs.length<=sizeLine:=by
 obtain ⟨z,its,n,r,e⟩:=I.hok p _ h
 exact ⟨its,n,r,e,z⟩
theorem Inv.lstUpd {pins:List (Addr×Obj)} {σ : St} {H:Hp} {s:Shared} {p:Addr} {xs ys:List V} {its its':List Value} {n n':Nat} {f:Obj->Obj} (I:Inv X pins σ H s) (h:H p=some (.lst xs))
  (ho:s.heap.get? p=some { cls:=.type "list",data:=.seq its.toArray n }) (hf:f { cls:=.type "list",data:=.seq its.toArray n }={ cls:=.type "list",data:=.seq its'.toArray n' }) (r:Vals ys its') (hz:ys.length<=sizeLine) (t:Nat) :
  Inv X pins σ (upd H p (.lst ys)) { s with heap:=s.heap.update p f,toks:=t }:=by
 have e:(s.heap.update p f).get? p=some { cls:=.type "list",data:=.seq its'.toArray n' }:=by
  rw [Heap.get?_update_self f ho (by rw [hf] <;> rfl),hf]
 refine I.write (x:=p) (e:=p) (by rw [h];trivial) (.inl rfl) (fun b u hb q=>(Heap.get?_update_other _ _ (Ne.symm hb)).trans q) ⟨_,e⟩ ?_
 exact ⟨hz,its',n',r,e⟩
def GC:V->V->V->Hp->(Hp->Prop)->Prop:=fun o i v H Q=>∃ p xs k j,o = .ref p∧i = .int k∧H p=some (.lst xs)∧ixN xs.length k=some j∧Q (upd H p (.lst (xs.set j v)))
theorem set_list:Ob X GC:=by
 intro pins s σ H o i v ov iv u Q I ro ri rv h
 obtain ⟨p,xs,k,j,rfl,rfl,hp,hj,q⟩:=h
 cases ro
 obtain ⟨t,rfl⟩:=ri
 obtain ⟨its,n,r,ho,hz⟩:=I.lst hp
 obtain ⟨h1,h2,h3,h4⟩:=vh hj
 have hl:=r.length
 have hn:=mH
 have I':Inv X pins σ (upd H p (.lst (xs.set j v))) { s with heap:=s.heap.update p (Obj.mapSeq (·.setIfInBounds j u)) }:=
  I.lstUpd hp ho (zg its n j u) (r.set rv j) (by rw [List.length_set];exact hz) s.toks
 by_cases h0:0<=k
 ·have hk:k.toNat=j:=by
   rw [seqIndex_of h0 h4] at h1
   exact Option.some.inj h1
  exact PySem.W.ki_setAt ho h0 (by omega) (by rw [List.size_toArray,← hl];exact h4) (by rw [hk];exact ⟨_,I',q⟩)
 ·have hk:(k+(its.toArray.size:Int)).toNat=j:=by
   rw [seqIndex_neg (by omega) h3] at h1
   rw [List.size_toArray,← hl]
   exact Option.some.inj h1
  exact PySem.W.ki_setBack ho (by omega) (by rw [List.size_toArray,← hl];exact h3) (by omega) (by rw [hk];exact ⟨_,I',q⟩)
theorem vV (lo hi:Option Int) (n:Nat):(sliceBounds lo hi none n).1=((HT.sIx n 0 lo:Nat):Int)∧(sliceBounds lo hi none n).2.1=((HT.sIx n n hi:Nat):Int)∧(sliceBounds lo hi none n).2.2=1:=by
 refine ⟨?_,?_,rfl⟩
 ·cases lo with
  | none=>simp [sliceBounds,HT.sIx]
  | some i=>
   simp only [sliceBounds,HT.sIx,Option.getD_none,show (1:Int)>0 by decide,if_true]
   by_cases h:i<0
   ·simp only [h,if_true] <;> omega
   ·simp only [h,if_false] <;> omega
 ·cases hi with
  | none=>simp [sliceBounds,HT.sIx]
  | some i=>
   simp only [sliceBounds,HT.sIx,Option.getD_none,show (1:Int)>0 by decide,if_true]
   by_cases h:i<0
   ·simp only [h,if_true] <;> omega
   ·simp only [h,if_false] <;> omega
theorem ue (its:List Value) (lo hi:Option Int):slicePick its.toArray lo hi none=((its.drop (HT.sIx its.length 0 lo)).take (HT.sIx its.length its.length hi - HT.sIx its.length 0 lo)).toArray:=by
 obtain ⟨h1,h2,h3⟩:=vV lo hi its.toArray.size
 unfold slicePick
 rw [h1,h2,h3]
 simp only [sliceRange_one,pick_run,List.size_toArray] <;> rfl
def Pu (K:PySem.W.Frag):V->Option Int->Option Int->Hp->VK->Prop:=fun x lo hi H Q=>∃ a xs,x = .ref a∧SqL K H a xs ∧ ∀ p,H p=none->Q (.ref p) (upd H p (.lst (wH xs lo hi)))
theorem Jr:SlR X (Pu X.K):=by
 intro pins s σ H x v vl vu lo hi sl Q I rx hs pl pu h
 obtain ⟨a,xs,rfl,hx,q⟩:=h
 cases rx
 obtain ⟨its,r,ht,hz⟩:=I.list hx
 have hlen:=r.length
 refine ⟨"list",_,slot_list_getitem.lookup,ht.isList.typeIs,?_⟩
 refine wpAny_getItem_list_slice ht.isList hs pl pu .none (by simp) ?_ (by rw [List.size_toArray] <;> omega)
 rw [ue,← hlen]
 refine ⟨.ref s.heap.objs.size,_,I.laid (t':=s.toks) (o:=.lst (wH xs lo hi)) (fun b ob q=>Heap.get?_push_of_some _ q) (Nat.le_refl _) ?_,rfl,q _ (I.hok.fresh (Nat.le_refl _))⟩
 exact ⟨Nat.le_trans (pY xs lo hi) hz,_,0,(r.drop (HT.sIx xs.length 0 lo)).take (HT.sIx xs.length xs.length hi - HT.sIx xs.length 0 lo),Heap.get?_push_size _ rfl⟩
theorem uW:gq X (.builtin "len") (fun xs H Q=>∃ p ys,xs=[.ref p]∧(SqL X.K H p ys∨SqT X.K H p ys)∧Q (.int ys.length) H):=by
 intro pins s σ H xs us Q I r h
 obtain ⟨p,ys,rfl,hq,q⟩:=h
 obtain ⟨u,rfl,rx⟩:=vals1 r
 cases rx
 have hn:=mH
 rcases hq with hq | hq
 ·obtain ⟨its,r',pl,hz⟩:=I.list hq
  have hlen:=r'.length
  exact Calls.call_len_list pl.isList (by simp only [List.size_toArray] <;> omega) ⟨.int ys.length,H,I.tok _,⟨s.toks+1,by rw [List.size_toArray,hlen]⟩,q⟩
 ·obtain ⟨its,r',pl,hz⟩:=I.tuple hq
  have hlen:=r'.length
  exact len_tuple pl (by simp only [List.size_toArray] <;> omega) ⟨.int ys.length,H,I.tok _,⟨s.toks+1,by rw [List.size_toArray,hlen]⟩,q⟩
theorem uX:gq X (.builtin "len") (fun xs H Q=>∃ z,xs=[.str z]∧z.length<=sizeLine∧Q (.int z.length) H):=by
 intro pins s σ H xs us Q I r h
 obtain ⟨z,rfl,hz,q⟩:=h
 obtain ⟨u,rfl,t,rfl⟩:=vals1 r
 have hn:=mH
 exact len_str (by omega) ⟨.int z.length,H,I.tok _,⟨_,rfl⟩,q⟩
theorem gq.or {f:Value} {r r':List V->Hp->VK->Prop} (h:gq X f r) (h':gq X f r'):gq X f (fun xs H Q=>r xs H Q∨r' xs H Q):=by
 intro pins s σ H xs us Q I rs q
 rcases q with q | q
 ·exact h pins s σ H xs us Q I rs q
 ·exact h' pins s σ H xs us Q I rs q
theorem nu:gq X (.type "list") (fun xs H Q=>∃ p ys,xs=[.ref p]∧(SqL X.K H p ys∨SqT X.K H p ys) ∧ ∀ l,H l=none->Q (.ref l) (upd H l (.lst ys))):=by
 intro pins s σ H xs us Q I r h
 obtain ⟨p,ys,rfl,hq,q⟩:=h
 obtain ⟨u,rfl,rx⟩:=vals1 r
 cases rx
 have fin:∀ (its:List Value),Vals ys its->ys.length<=sizeLine -> ∀ (h':Heap) (c':Nat),(∀ b o',s.heap.get? b=some o'->h'.get? b=some o') ->
   h'.get? s.heap.objs.size=some { cls:=.type "list",dict:=none,data:=.seq its.toArray c',slots:=#[] }->EP X pins σ Q (.ref s.heap.objs.size) { s with heap:=h' }:=fun its r' hz h' c' kp e=>
  ⟨.ref s.heap.objs.size,_,I.laid (t':=s.toks) kp (Nat.le_refl _) (show dI X.prog X.w _ h' _ (.lst ys) from ⟨hz,its,c',r',e⟩),rfl,q _ (I.hok.fresh (Nat.le_refl _))⟩
 rcases hq with hq | hq
 ·obtain ⟨its,r',pl,hz⟩:=I.list hq
  have hlen:=r'.length
  obtain ⟨o,ho,hc,n,hd⟩:=pl.isList
  exact call_list_seq p (.inl rfl) ho hc hd (fun h' c' kp e=>fin its r' hz h' c' kp e) (by simp only [List.size_toArray] <;> omega)
 ·obtain ⟨its,r',pl,hz⟩:=I.tuple hq
  have hlen:=r'.length
  obtain ⟨o,ho,hc,n,hd⟩:=pl
  exact call_list_seq p (.inr rfl) ho hc hd (fun h' c' kp e=>fin its r' hz h' c' kp e) (by simp only [List.size_toArray] <;> omega)
theorem fW:gq X (.type "tuple") (fun xs H Q=>∃ p ys,xs=[.ref p]∧((SqL X.K H p ys ∧ ∀ l,H l=none->Q (.ref l) (upd H l (.tup ys)))∨(SqT X.K H p ys∧Q (.ref p) H))):=by
 intro pins s σ H xs us Q I r h
 obtain ⟨p,ys,rfl,h⟩:=h
 obtain ⟨u,rfl,rx⟩:=vals1 r
 cases rx
 rcases h with ⟨hq,q⟩ | ⟨hq,q⟩
 ·obtain ⟨its,r',pl,hz⟩:=I.list hq
  have hlen:=r'.length
  refine call_tuple_list pl.isList (fun h' kp=>?_) (by simp only [List.size_toArray] <;> omega)
  have I1:Inv X pins σ H { s with heap:=h' }:=I.kept (t':=s.toks) kp
  have I2:Inv X pins σ (upd H h'.objs.size (.tup ys)) { s with heap:=h'.push { cls:=.type "tuple",data:=.seq its.toArray } }:=
   I1.laid (t':=s.toks) (fun b o e=>Heap.get?_push_of_some _ e) (Nat.le_refl _) (show dI X.prog X.w _ _ _ (.tup ys) from ⟨hz,its,r',IsTup.new _ _⟩)
  exact ⟨.ref h'.objs.size,_,I2,rfl,q _ (I1.hok.fresh (Nat.le_refl _))⟩
 ·obtain ⟨its,r',pl,hz⟩:=I.tuple hq
  exact call_tuple_same pl ⟨.ref p,H,I,rfl,q⟩
def tyV (K:PySem.W.Frag) (T:String) (x:V) (H:Hp):Prop:=match x with
 | .str _=>T = "str"
 | .int _=>T = "int"
 | .ref p=>(T = "list" ∧ ∃ xs,SqL K H p xs)∨(T = "tuple" ∧ ∃ o,K.lookup p=some o∧o.cls = .type "tuple" ∧ o.dict=none) ∨
   (T = "dict" ∧ ((∃ kvs,H p=some (.dK kvs)) ∨ ∃ kvs,H p=some (.dT kvs)))∨(T = "set" ∧ ∃ S n,H p=some (.set S n))
 | _=>False
theorem NB {pins:List (Addr×Obj)} {σ : St} {H:Hp} {s:Shared} {T:String} {x:V} {v:Value} (I:Inv X pins σ H s) (r:RelV x v) (ty:tyV X.K T x H) :
  s.TypeIs v T ∧ ∀ a,v = .ref a -> ∃ ob,s.heap.get? a=some ob∧ob.dict=none:=by
 cases x with
 | str z=>
  obtain ⟨t,rfl⟩:=r
  cases (show T = "str" from ty)
  exact ⟨typeIs_str s z t,fun _ e=>nomatch e⟩
 | int i=>
  obtain ⟨t,rfl⟩:=r
  cases (show T = "int" from ty)
  exact ⟨typeIs_int s i t,fun _ e=>nomatch e⟩
 | ref p=>
  cases r
  rcases ty with ⟨rfl,xs,hq⟩ | ⟨rfl,o,hk,hc,hd⟩ | ⟨rfl,hk⟩ | ⟨rfl,S,n,hk⟩
  ·obtain ⟨its,_,pl,_⟩:=I.list hq
   refine ⟨pl.isList.typeIs,fun a e=>?_⟩
   cases e
   obtain ⟨o,n,e,c,hd,_⟩:=pl
   exact ⟨o,e,hd⟩
  ·refine ⟨⟨o,I.kIn p o hk,hc⟩,fun a e=>?_⟩
   cases e
   exact ⟨o,I.kIn _ o hk,hd⟩
  ·have z:∃ o,s.heap.get? p=some o∧o.ExactDict:=by
    rcases hk with ⟨kvs,hk⟩ | ⟨kvs,hk⟩
    ·obtain ⟨_,_,_,_,o,_,_,e,ex,_⟩:=I.hok p _ hk
     exact ⟨o,e,ex⟩
    ·obtain ⟨_,_,_,_,o,_,_,e,ex,_⟩:=I.hok p _ hk
     exact ⟨o,e,ex⟩
   obtain ⟨o,e,ex⟩:=z
   refine ⟨⟨o,e,ex.1⟩,fun a e2=>?_⟩
   cases e2
   exact ⟨o,e,ex.2.1⟩
  ·obtain ⟨o,_,_,_,e,ex,_⟩:=I.hok p _ hk
   refine ⟨⟨o,e,ex.1⟩,fun a e2=>?_⟩
   cases e2
   exact ⟨o,e,ex.2.1⟩
 | _=>exact False.elim ty
def tBM (K:PySem.W.Frag) (T:String) (r:V->List V->Hp->VK->Prop) (to:TE) (t:TA):TE:=fun σ H Q=>to σ H fun x H1=>tyV K T x H1∧t σ H1 fun xs H2=>r x xs H2 Q
variable {o e:Expr} {es:List Expr} {to:TE} {t:TA} {name:Str} {apos cpos:Pos} {T id:String} {r:V->List V->Hp->VK->Prop}
theorem Ou (pa:PlainAttrs T) (slot:Slot T name id) (hty:typeOf (.builtin id)=pure (.type "method_descriptor")) (hm:MtR X id r) (ho:PE X o to) (ha:PA X (e :: es) t)
  (hbase:attributeBase o name X.env (eval o X.env)=eval o X.env:=by rfl)
  (hfew:((backTo cpos (starEach (e :: es) X.env)).all (fun x=>!x.1)&&(backToKw cpos (keywordEach [] X.env)).all (fun x=>x.1.isSome)
   && decide ((e :: es).length+([]:List Keyword).length+(if ([]:List Keyword).isEmpty then 0 else 1)<30))=true:=by rfl)
  (hline:(apos.endLine==cpos.line)=true:=by rfl) (hs:starEach (e :: es) X.env=(false,eval e X.env) :: starEach es X.env:=by rfl) (hplain:(backTo cpos (starEach es X.env)).any (·.1)=false:=by rfl) :
  PE X (.Call (.Attribute o name apos) (e :: es) [] cpos) (tBM X.K T r to t):=by
 intro pins s σ H Q I h
 refine wpAny_Call_method_late hbase hfew hline rfl (thn (ho pins s σ H _ I h) fun v s1 ⟨x,H1,I1,r1,ty,q1⟩=>?_)
 obtain ⟨h1,h2⟩:=NB I1 r1 ty
 refine ⟨T,id,pa,slot,hty,h1,h2,?_⟩
 have hA:=ha cpos pins s1 σ H1 _ I1 q1
 rw [hs] at hA ⊢
 refine Calls.callWith_builtin (by show (false||(backTo cpos (starEach es X.env)).any (·.1))=false;rw [hplain] <;> rfl) (Calls.evalArgs_plain ?_)
 exact thn hA fun us s2 ⟨vs,H2,I2,r2,q2⟩=>hm pins s2 σ H2 x vs v us Q I2 r1 r2 q2
end
end L2
namespace L2
open PySem PySem.Spec PyProof.Rows
def MtM (X:Cx) (id:String) (r:V->List V->Hp->VK->Prop):Prop:=
 ∀ (pins:List (Addr×Obj)) (s:Shared) (σ : St) (H:Hp) (x:V) (xs:List V) (v:Value) (us:List Value) (Q:VK),Inv X pins σ H s->RelV x v->Vals xs us->r x xs H Q ->
  wpAny (model X.prog X.w) X.A (call (.builtin id) (v :: us)) (EP X pins σ Q) X.xe s
theorem Vals.one:∀ {x:V} {us:List Value},Vals [x] us -> ∃ u,us=[u]∧RelV x u
 | _,_,.cons r .nil=>⟨_,rfl,r⟩
theorem Vals.two:∀ {x y:V} {us:List Value},Vals [x,y] us -> ∃ u v,us=[u,v]∧RelV x u∧RelV y v
 | _,_,_,.cons r (.cons q .nil)=>⟨_,_,rfl,r,q⟩
theorem Vals.zero:∀ {us:List Value},Vals [] us->us=[]
 | _,.nil=>rfl
theorem Vals.eraseIdx:∀ {xs:List V} {us:List Value} (i:Nat),Vals xs us->Vals (xs.eraseIdx i) (us.eraseIdx i)
 | _,_,_,.nil=>.nil
 | _,_,0,.cons _ t=>t
 | _,_,i+1,.cons r t=>.cons r (Vals.eraseIdx i t)
theorem Vals.reverse {xs:List V} {us:List Value} (h:Vals xs us):Vals xs.reverse us.reverse:=by
 induction h with
 | nil=>exact .nil
 | cons r t ih=>rw [List.reverse_cons,List.reverse_cons];exact Vals.append ih (.cons r .nil)
theorem Vals.rep {xs:List V} {us:List Value} (h:Vals xs us):∀ k:Nat,Vals (List.replicate k xs).flatten (List.replicate k us).flatten
 | 0=>.nil
 | k+1=>by
  rw [List.replicate_succ,List.replicate_succ,List.flatten_cons,List.flatten_cons]
  exact Vals.append h (Vals.rep h k)
theorem foldl_rep (its:List Value):∀ (k:Nat) (acc:List Value),
  List.foldl (fun x1 x2=>x1++x2) acc.toArray (List.replicate k its.toArray)=(acc++(List.replicate k its).flatten).toArray
 | 0,acc=>by simp
 | k+1,acc=>by
  have e:acc.toArray++its.toArray=(acc++its).toArray:=by simp
  have e2:(acc++its)++(List.replicate k its).flatten=acc++(List.replicate (k+1) its).flatten:=by
   rw [List.replicate_succ,List.flatten_cons,List.append_assoc]
  rw [← e2,← foldl_rep its k (acc++its),← e,List.replicate_succ,List.foldl_cons]
section
variable {X:Cx} {pins:List (Addr×Obj)} {σ : St} {H:Hp} {s:Shared} {l b:Addr} {xs ys zs:List V}
theorem Inv.lset {its its':List Value} {n:Nat} {f:Array Value->Array Value} {t':Nat} (I:Inv X pins σ H s) (hH:H l=some (.lst xs))
  (e:s.heap.get? l=some { cls:=.type "list",data:=.seq its.toArray n }) (hf:f its.toArray=its'.toArray) (hv:Vals ys its') (hz:ys.length<=sizeLine) :
  Inv X pins σ (upd H l (.lst ys)) { s with heap:=s.heap.update l (Obj.mapSeq f),toks:=t' }:=by
 have q:=PySem.IsL.update e f
 rw [hf] at q
 refine I.write (x:=l) (e:=l) (by rw [hH];exact trivial) (.inl rfl) (fun b' u hb hu=>(Heap.get?_update_other s.heap (Obj.mapSeq f) (Ne.symm hb)).trans hu) ⟨_,q⟩ ?_
 exact ⟨hz,its',_,hv,q⟩
theorem Inv.lnew {its:List Value} {t':Nat} (I:Inv X pins σ H s) (hv:Vals ys its) (hz:ys.length<=sizeLine) :
  Inv X pins σ (upd H s.heap.objs.size (.lst ys)) { s with heap:=s.heap.push { cls:=.type "list",data:=.seq its.toArray },toks:=t' }:=
 I.laid (fun _ _ q=>Heap.get?_push_of_some _ q) (Nat.le_refl _) ⟨hz,its,0,hv,Heap.get?_push_size _ rfl⟩
theorem Inv.fresh (I:Inv X pins σ H s):H s.heap.objs.size=none:=I.hok.fresh (Nat.le_refl _)
theorem Inv.lstM (I:Inv X pins σ H s) (hH:H l=some (.lst xs)):xs.length<=sizeLine ∧ ∃ (its:List Value) (n:Nat),Vals xs its∧xs.length=its.length∧s.heap.get? l=some { cls:=.type "list",data:=.seq its.toArray n }:=by
 obtain ⟨z,its,n,r,e⟩:=I.hok l _ hH
 exact ⟨z,its,n,r,r.length,e⟩
theorem sH {n:Nat} (h:n<=sizeLine):Builtin.List.listTooLong n=false:=by
 unfold Builtin.List.listTooLong
 exact decide_eq_false (by omega)
end
section
variable {X:Cx}
def Bo:V->List V->Hp->VK->Prop:=fun x vs H Q=>∃ l xs y,x = .ref l∧vs=[y]∧H l=some (.lst xs)∧xs.length<sizeLine∧Q .non (upd H l (.lst (xs++[y])))
theorem pB:MtM X "list.append" Bo:=by
 intro pins s σ H x vs v us Q I rx rv h
 obtain ⟨l,xs,y,rfl,rfl,hH,hz,q⟩:=h
 cases rx
 obtain ⟨u,rfl,ru⟩:=rv.one
 obtain ⟨z,its,n,r,hl,e⟩:=I.lstM hH
 refine call_meets F.slot_list_append ⟨_,e,rfl⟩ F.entry_list_append (F.args_list_append_2 _ _) (PySem.list_append l its.toArray n u (by rw [List.size_toArray];omega)) ⟨e,?_⟩
 refine ⟨.non,_,I.lset (its':=its++[u]) hH e (by simp) (r.append (.cons ru .nil)) ?_,rfl,q⟩
 rw [List.length_append,List.length_singleton]
 omega
def Pa:R2:=fun x y H Q=>∃ l b xs zs,x = .ref l∧y = .ref b∧H l=some (.lst xs)∧H b=some (.lst zs)∧xs.length+zs.length<=sizeLine ∧ ∀ p,H p=none->Q (.ref p) (upd H p (.lst (xs++zs)))
theorem Mh:OpR X (binaryOp .Add) Pa:=by
 intro pins s σ H x y v u Q I rx ry h
 obtain ⟨l,b,xs,zs,rfl,rfl,hH,hB,hz,q⟩:=h
 cases rx
 cases ry
 obtain ⟨z,its,n,r,hl,e⟩:=I.lstM hH
 obtain ⟨z2,its2,n2,r2,hl2,e2⟩:=I.lstM hB
 refine PySem.P.add_list e e2 ?_ (by rw [List.size_toArray,List.size_toArray];omega)
 have ea:its.toArray++its2.toArray=(its++its2).toArray:=by simp
 rw [ea]
 exact ⟨.ref _,_,I.lnew (t':=s.toks) (r.append r2) (by rw [List.length_append];omega),rfl,q _ I.fresh⟩
def MK:R2:=fun x y H Q=>∃ l k xs,x = .ref l∧y = .int k∧H l=some (.lst xs) ∧ -(2 ^ 63)<=k∧k<2 ^ 63∧xs.length*k.toNat<=sizeLine ∧
 ∀ p,H p=none->Q (.ref p) (upd H p (.lst (List.replicate k.toNat xs).flatten))
theorem len_rep {α : Type} (xs:List α) (k:Nat):(List.replicate k xs).flatten.length=k*xs.length:=by
 induction k with
 | zero=>simp
 | succ k ih=>rw [List.replicate_succ,List.flatten_cons,List.length_append,ih,Nat.succ_mul,Nat.add_comm]
theorem Mi:OpR X (binaryOp .Mult) MK:=by
 intro pins s σ H x y v u Q I rx ry h
 obtain ⟨l,k,xs,rfl,rfl,hH,h1,h2,hz,q⟩:=h
 cases rx
 obtain ⟨t,rfl⟩:=ry
 obtain ⟨z,its,n,r,hl,e⟩:=I.lstM hH
 have hlen:its.toArray.size*k.toNat<=sizeLine:=by rw [List.size_toArray,← hl];exact hz
 have hcap:¬ its.toArray.size*k.toNat>(2 ^ 63 - 1) / 8:=by
  have:(sizeLine:Nat)<=(2 ^ 63 - 1) / 8:=by decide
  omega
 have hfit:¬ (!Builtin.List.listFitsIndex k)=true:=by
  rw [fitsIndex_both h1 h2]
  exact Bool.false_ne_true
 have hlong:¬ Builtin.List.listTooLong (its.toArray.size*k.toNat)=true:=by
  rw [sH hlen]
  exact Bool.false_ne_true
 have hnew:List.foldl (fun x1 x2=>x1++x2) #[] (List.replicate (if its.toArray.isEmpty=true then 0 else k.toNat) its.toArray)=(List.replicate k.toNat its).flatten.toArray:=by
  have f0:∀ m:Nat,List.foldl (fun x1 x2=>x1++x2) #[] (List.replicate m its.toArray)=(List.replicate m its).flatten.toArray:=fun m=>by
   have:=foldl_rep its m []
   rw [List.nil_append] at this
   exact this
  rw [f0]
  cases its with
  | nil=>simp
  | cons a r'=>rw [if_neg (by simp)]
 refine wpAny_binaryOp_repeat_ref (T:= "list") (U:= "int") (by decide) ⟨_,e,rfl⟩ (fun s'=>typeIs_int s' k t) noFill_list_mul F.fills_int_mul F.slot_int_rmul repeat_list F.slot_int_index.lookup
  (call_meets F.slot_int_rmul (typeIs_int s k t) F.entry_int_rmul (F.args_int_rmul_2 _ _) (int___rmul___int_list k t l its.toArray n)
   ⟨e,rfl,⟨_,e,rfl⟩,call_meets F.slot_list_mul ⟨_,e,rfl⟩ F.entry_list_mul (F.args_list_mul_2 _ _) (AutoListH.list___mul___list_int_3 l its.toArray n k t hfit hcap hlong) ⟨e,?_⟩⟩)
 rw [hnew]
 exact ⟨.ref _,_,I.lnew (t':=s.toks) (r.rep k.toNat) (by rw [len_rep,Nat.mul_comm];exact hz),rfl,q _ I.fresh⟩
end
section
variable {prog:Program} {w:World} {A:Around} {E:Value->Shared->Prop} {s:Shared}
theorem yM {a c n:Nat} (hac:a<=c) (hc:c<=n):sliceBounds (some (a:Int)) (some (c:Int)) none n=((a:Int),(c:Int),1):=by
 simp only [sliceBounds,Option.getD_none]
 have h1:¬ ((a:Int)<0):=by omega
 have h2:¬ ((c:Int)<0):=by omega
 simp only [h1,h2,if_false,show (1:Int)>0 by decide,if_true]
 congr 1
 ·omega
 ·congr 1;omega
set_option maxRecDepth 100000 in
theorem Hl {l b sl:Addr} {items new:Array Value} {n n2:Nat} {vl vu:Value} {a c:Nat} {Q:Unit->Shared->Prop}
  (e:s.heap.get? l=some { cls:=.type "list",data:=.seq items n }) (e2:s.heap.get? b=some { cls:=.type "list",data:=.seq new n2 }) (hne:l≠b)
  (hs:s.heap.IsSliceOf sl vl vu .none) (pl:IsPart vl (some (a:Int))) (pu:IsPart vu (some (c:Int))) (hac:a<=c) (hc:c<=items.size)
  (hsz:items.size+new.size<=sizeLine) (h:Q () { s with heap:=s.heap.update l (Obj.mapSeq fun xs=>xs.extract 0 a++new++xs.extract c xs.size) }) :
  wpAny (model prog w) A (setItem (.ref l) (.ref sl) (.ref b)) Q E s:=by
 have hl:s.heap.IsList l items:=PySem.IsL.isList e
 have hb:s.heap.IsList b new:=PySem.IsL.isList e2
 obtain ⟨os,hos,hcs,hds⟩:=id hs
 have hTs:s.TypeIs (.ref sl) "slice":=⟨os,hos,hcs⟩
 have hstep:¬ ((rawPart none==rawInt 0)=true):=Bool.false_ne_true
 have hsame:Builtin.List.listSameRef (.ref l) (.ref b)=false:=by
  unfold Builtin.List.listSameRef
  exact beq_eq_false_iff_ne.mpr hne
 have hmax:(max (a:Int) (c:Int)).toNat=c:=by omega
 have hz':((fun xs:Array Value=>xs.extract 0 a++new++xs.extract c xs.size) items).size<=sizeLine+1:=by
  simp only [Array.size_append,Array.size_extract]
  omega
 unfold setItem
 try with_reducible refine wpAny_holding ?_
 first | refine wpAny_bind (wpAny_pure ?_) | skip
 refine wpAny_bind (wpAny_sequenceKey hl.typeIs (by decide) ?_)
 refine wpAny_bind (wpAny_callSpecial?_slot (name:=Str.ofString "__setitem__") hl.typeIs slot_list_setitem
  (wpAny_call_entry slot_list_setitem hl.typeIs entry_list_setitem ?_ (args_list_setitem _ _ _)))
 show wpAny _ _ (Builtin.List.listSubscript? (.ref sl) >>= _) _ _ s
 refine wpAny_bind ?_
 unfold Builtin.List.listSubscript?
 refine wpAny_bind (wpAny_specialOf hTs slice_no_index ?_)
 simp only [Option.isNone_none,if_true]
 refine wpAny_pure ?_
 show wpAny _ _ (typeOf (.ref sl) >>= _) _ _ s
 refine wpAny_bind (wpAny_typeOf hTs ?_)
 first
  | rw [if_neg (by decide)]
  | refine PySem.W.KFB.if_not (by decide) ?_
 rw [listSliceParts_eq]
 refine wpAny_bind (wpAny_bind (wpAny_field hos hds (x:=.none) rfl (wpAny_bind (wpAny_listPart .none ?_))))
 rw [if_neg hstep]
 refine wpAny_bind (wpAny_field hos hds (x:=vl) rfl (wpAny_bind (wpAny_listPart pl ?_)))
 refine wpAny_bind (wpAny_field hos hds (x:=vu) rfl (wpAny_bind (wpAny_listPart pu (wpAny_pure ?_))))
 first
  | simp only [hsame,Bool.false_eq_true,if_false]
  | refine PySem.W.KFB.if_not hsame ?_
  | (dsimp only
     rw [if_neg (by rw [hsame];exact Bool.false_ne_true)])
 refine wpAny_bind (m:=Builtin.List.listAllItems (.ref b) "must assign iterable to extended slice") ?_
 unfold Builtin.List.listAllItems
 refine wpAny_bind (wpAny_typeOf hb.typeIs ?_)
 first
  | refine PySem.W.KFB.if_so (by decide) ?_
  | rw [if_pos (by decide)]
  | simp only [beq_self_eq_true,Bool.true_or,if_true]
 unfold Builtin.List.listItems
 refine wpAny_bind (wpAny_seqItems e2 rfl (wpAny_pure ?_))
 refine wpAny_bind (wpAny_bind (wpAny_seqItems e rfl (wpAny_pure ?_)))
 refine wpAny_bind (wpAny_of_eq ((sliceIndices_raw (some (a:Int)) (some (c:Int)) none items.size (by simp)).trans (congrArg (pure:Int×Int×Int->Sem (Int×Int×Int)) (yM hac hc))) ?_)
 show wpAny _ _ (if ((1:Int)==1)=true then _ else _) _ _ s
 rw [if_pos (by decide)]
 refine wpAny_bind (wpAny_rule ?_)
 first
  | simp only [sH hsz,Bool.false_eq_true,if_false]
  | refine PySem.W.KFB.if_not (sH hsz) ?_
 first | refine wpAny_bind (wpAny_pure ?_) | skip
 show wpAny _ _ (updateSeq l (fun xs=>xs.extract 0 ((a:Int)).toNat++new++xs.extract (max (a:Int) (c:Int)).toNat xs.size) >>= _) _ _ s
 rw [hmax,Int.toNat_natCast]
 refine wpAny_bind (wpAny_updateSeq (hz:=Nat.le_trans (Nat.le_add_right _ _) hsz) (_hz':=hz') e rfl ?_)
 refine wpAny_bind (wpAny_letGo ?_)
 first
  | exact wpAny_bind (wpAny_pure (wpAny_pure ⟨.none,rfl,wpAny_pure h⟩))
  | exact wpAny_pure ⟨.none,rfl,wpAny_pure h⟩
end
section
variable {X:Cx}
end
end L2
namespace Att
open PySem PySem.W PySem.Calls PyProof.Rows
theorem qt {P:Params} {h:Heap}:∀ (ns:List Int) (vs:List Value),WellAll P h vs (ns.map WData.int)->IntsAre vs ns:=by
 intro ns
 induction ns with
 | nil=>
  intro vs w
  rw [List.map_nil] at w
  cases w
  exact .nil
 | cons n ns ih=>
  intro vs w
  rw [List.map_cons] at w
  cases w with
  | cons a b=>
   cases a
   exact .cons _ _ (ih _ b)
theorem Dr {l:OpenLaw} {n:Nat} (hn:l.most=some n) {P:Params} {h:Heap} {args:List WData} {vals:List Value}
  (hpre:l.row.toRowW.claim.pre args=true) (hwl:WellAll P h vals args) :
  ∃ a vs ns,vals=[Value.ref a]∧args=[WData.list (ns.map WData.int)]∧h.get? a=some { cls:=.type "list",data:=.seq vs.toArray }∧IntsAre vs ns∧ns.length<=n:=by
 have hsh:WShape.hasAll [] args [.list .int]=true:=(pre_splitW hpre).1
 have hc:l.pre.holds [] { args:=args }=true:=(pre_splitW hpre).2
 obtain ⟨d,r,rfl,h1,h2⟩:=hasAllW_cons hsh
 obtain rfl:=hasAllW_nil h2
 obtain ⟨xs,rfl,h3⟩:=hasW_list h1
 obtain ⟨ns,rfl⟩:=items_int h3
 have hlen:ns.length<=n:=by
  unfold OpenLaw.pre at hc
  have h4:(WTm.not (.lt (.lit (.int (n:Int))) (.len (.arg 0)))).holds [] { args:=[.list (ns.map .int)] }=true:=by
   have h4:=(holds_andW hc).1
   rw [hn] at h4
   exact h4
  have h5:=condW_of h4 (w_not (w_lt w_lit (w_len_list (w_arg rfl))))
  rw [List.length_map] at h5
  refine Nat.le_of_not_lt fun q=>?_
  have q':(n:Int)<((ns.length:Nat):Int):=by omega
  first
   | (rw [decide_eq_true q'] at h5;exact absurd h5 (by decide))
   | (simp at h5;omega)
 cases hwl with
 | cons w1 w2=>
  cases w2
  cases w1 with
  | list ho hall=>exact ⟨_,_,ns,rfl,rfl,ho,qt ns _ hall,hlen⟩
theorem Do (l:OpenLaw) (args:List WData):l.row.toRowW.claim.post args (.bool true) args=true:=
 postW_of (r:=l.row.toRowW) (X:=(true==true))
  (show WShape.has [] (.bool true) .bool=true by first | rfl | decide | simp [WShape.has,WShape.arms,WShape.armsAll])
  (show (WTm.eq .res (.lit (.bool true))).value [] { args:=args,res:=some (.bool true),after:=args }=some (.bool (true==true)) from w_eq_bool (w_res rfl) w_lit) rfl
theorem wy {l:OpenLaw} {n:Nat} {q:Program} {loose:List Str} {XP:(Str->Option Value)->Heap->Prop} {YP:World->Heap->Prop} {d:DefRec}
  (hn:l.most=some n) (hdf:d.params.defaults=[])
  (call:∀ (w:World) (s₀ s₁ : Shared) (mg mb:Str->Option Value) (fa:Addr) (o:Obj) (pm cd doc:Value) (a:Addr) (vs:List Value) (ns:List Int),
   Ground q loose [] XP w s₀ mg mb s₁.heap->YP w s₁.heap ->
   s₁.heap.get? fa=some o->o.data = .func (docDef d.name d.params d.body d.scope pm cd doc)->s₁.heap.CodeRec cd d.name->mg d.name=some (.ref fa) ->
   s₁.heap.get? a=some { cls:=.type "list",data:=.seq vs.toArray }->IntsAre vs ns->ns.length<=n->s₁.gens = #[] ->
   codeAny (model l.prog w) callerA (.call (.ref fa) ⟨[.ref a],[]⟩) (fun r s'=>r = .ok (.ret (.bool true))∧OldK s₁.heap s'.heap∧s'.os=s₁.os∧AllBare s'.gens) s₁) :
  WalkO q loose XP YP l.row.toRowW d [] (fun f vs=>PySem.call f vs):=by
 intro w s₀ s₁ mg mb G Y fa o pm cd doc dV kV ho hd hcd hD hmg hg args vals as hpre hlay hrd hwl hlo
 obtain rfl:dV = .none:=Dflts.none hD hdf
 obtain rfl:kV = .none:=Dflts.noKw hD
 obtain ⟨a,vs,ns,rfl,rfl,hobj,hints,hlen⟩:=Dr hn hpre hwl
 refine enter_call (codeAny_mono (call w s₀ s₁ mg mb fa o pm cd doc a vs ns G Y ho (fd_plain hd) hcd hmg hobj hints hlen hg) fun r s' hq=>?_)
 obtain ⟨rfl,h2,h3,h4⟩:=hq
 exact ⟨.inl ⟨.bool true,.bool true,[],rfl,fun _=>rfl,.bool true,Do l _,fun _=>⟨List.Pairwise.nil,fun _ hm=>(nomatch hm)⟩⟩,h2,h3,h4⟩
section
variable {prog:Program} {w:World} {A:Around} {E:Value->Shared->Prop} {s:Shared} {K:Frag}
end
end Att
namespace L2
open PySem PySem.Spec PyProof.Rows
theorem uN:∀ {vs:List Value} {ns:List Int},IntsAre vs ns->Vals (ns.map V.int) vs
 | _,_,.nil=>.nil
 | _,_,.cons n t h=>.cons ⟨t,rfl⟩ (uN h)
def Only (H:Hp):Prop:=∀ b,H b=none ∨ ∃ o xs,H b=some (.frz o (.lst xs))
theorem Fo {P:Program} {w:World} {K:PySem.W.Frag} {mg mb:Str->Option Value} {CX:CXT} {k:Nat} {fa a:Addr} {fd:FuncData} {x:Str} {sp:Sp} {s₁ : Shared} {vs:List Value} {ns:List Int}
  (KX:K.In s₁.heap) (hns:s₁.heap.Ns mainGlobals mg) (hb:s₁.heap.Ns builtinsNs mb) (hbb:∀ x:Str,x ≠ "__name__" -> mb x=bootBuiltins x) (hlim:s₁.heap.NoLimit) (hseer:s₁.heap.NoSeer) (hg:s₁.gens = #[])
  (ha:s₁.heap.get? a=some { cls:=.type "list",data:=.seq vs.toArray }) (hi:IntsAre vs ns) (hl:ns.length<=sizeLine) (hr:Room k callerA)
  (F:∀ base:Heap,K.In base->base.Ns mainGlobals mg->FnOk P w K mg base CX k fa fd [x] sp) (hbind:∀ (s:Shared) (u:Value),BindsTo s fd ⟨[u],[]⟩ [(x,u)])
  (hsp:∀ H:Hp,Only H->SqL K H a (ns.map V.int)->sp [.ref a] H (fun v _=>v = .bl true) fun _ _ _=>False)
  (hCX:∀ H e s',CX [] H s₁ (fun _ _ _=>False) e s'->False) :
  codeAny (model P w) callerA (.call (.ref fa) ⟨[.ref a],[]⟩) (fun r s'=>r = .ok (.ret (.bool true))∧OldK s₁.heap s'.heap∧s'.os=s₁.os∧AllBare s'.gens) s₁:=by
 have rv:=uN hi
 have lenV:=hi.length
 have core:∀ H:Hp,Only H->SqL K H a (ns.map V.int)->HOk P w H s₁.heap->(∀ b,H b≠none->b=a)->(H a≠none->K.lookup a=none) ->
   codeAny (model P w) callerA (.call (.ref fa) ⟨[.ref a],[]⟩) (fun r s'=>r = .ok (.ret (.bool true))∧OldK s₁.heap s'.heap∧s'.os=s₁.os∧AllBare s'.gens) s₁:=by
  intro H hO hS hok hA hK
  have base_of:∀ {b:Addr} {o:Obj},s₁.heap.get? b=some o->H b=none->(vf s₁.heap H).get? b=some o:=fun e n=>Ex e n
  have noA:∀ {b:Addr} {o:Obj} {es:Array DictEntry} {ep:Nat},s₁.heap.get? b=some o->o.data = .dict es ep->H b=none:=fun {b o es ep} e d=>by
   cases q:H b with
   | none=>rfl
   | some u=>
    have e':b=a:=hA b (by rw [q];simp)
    subst e'
    rw [ha] at e;cases e
    have d':Data.seq vs.toArray _=Data.dict es ep:=d
    cases d'
  have nsK:∀ {b:Addr} {m:Str->Option Value},s₁.heap.Ns b m->(vf s₁.heap H).Ns b m:=fun {b m} ⟨o,es,ep,e,d,r⟩=>⟨o,es,ep,base_of e (noA e d),d,r⟩
  have hKb:K.In (vf s₁.heap H):=fun b o e=>base_of (KX b o e) (by
   cases q:H b with
   | none=>rfl
   | some u=>
    have e':b=a:=hA b (by rw [q];simp)
    subst e'
    rw [hK (by rw [q];simp)] at e;cases e)
  have hM:Mod K mg (vf s₁.heap H):=⟨hKb,nsK hns,⟨mb,nsK hb,hbb⟩,(let ⟨mc,h1,h2⟩:=hlim;⟨mc,nsK h1,h2⟩),
   { statics:=let ⟨mc,h1,h2⟩:=hseer.statics;⟨mc,nsK h1,h2⟩
     mods:=let ⟨mc,h1,h2⟩:=hseer.mods;⟨mc,nsK h1,h2⟩
     imp:=let ⟨mc,h1,h2⟩:=hseer.imp;⟨mc,nsK h1,h2⟩
     main:=by
      obtain ⟨mg',bm,ob,h1,h2,h3,h4,h5⟩:=hseer.main
      refine ⟨mg',bm,ob,nsK h1,h2,base_of h3 ?_,h4,h5⟩
      cases q:H bm with
      | none=>rfl
      | some u=>
       have e':bm=a:=hA bm (by rw [q];simp)
       subst e'
       rw [ha] at h3;cases h3
       exact absurd h4 (by intro z;injection z with z;exact absurd z (by decide)) }⟩
  have e0:Env0 P w K mg (vf s₁.heap H) callerA [] s₁ H:=⟨rfl,hM,fun b o e=>Ij e,Nat.le_of_eq (Cu _ _),trivial,fun b hb=>absurd (show b∈([]:List Addr) from hb) (by simp),hok,.of_eq hg⟩
  refine codeAny_mono ((F _ hKb (nsK hns)).run callerA [] s₁ H ⟨[.ref a],[]⟩ [.ref a] [.ref a] _ _ hr e0 (hbind s₁ (.ref a)) (.cons rfl .nil) (hsp H hO hS)) fun r s' h=>?_
  cases r with
  | error e=>exact (hCX H e s' h).elim
  | ok fl=>
   cases fl with
   | next=>exact False.elim h
   | brk=>exact False.elim h
   | cont=>exact False.elim h
   | ret u=>
    obtain ⟨v,H',os,bare,un,hok',r',q⟩:=h
    have q':v = .bl true:=q
    subst q'
    obtain rfl:u=Value.bool true:=r'
    refine ⟨rfl,OldK.of_keep fun b o e=>?_,os,bare⟩
    cases q:H b with
    | none=>exact un.keep b o e q (by intro z;exact absurd (show b∈([]:List Addr) from z) (by simp)) (by simp)
    | some u=>
     rcases hO b with z | ⟨ob,xs,z⟩
     ·rw [q] at z;cases z
     ·have z2:=un.frzs b ob _ z
      obtain ⟨e1,_⟩:=hok b _ z
      obtain ⟨e2,_⟩:=hok' b _ z2
      rw [e] at e1;cases e1
      exact e2
 cases hk:K.lookup a with
 | some o=>
  have e:=KX a o hk
  rw [ha] at e
  cases e
  refine core (fun _=>none) (fun _=>.inl rfl) (.inr ⟨_,vs.toArray,_,hk,rfl,rfl,rfl,by rw [List.size_toArray,lenV];exact hl,by simpa using rv⟩) (fun b u z=>by have z':(none:Option HO)=some u:=z;cases z') (fun b z=>absurd rfl z) fun z=>absurd rfl z
 | none=>
  refine core (fun b=>if b=a then some (.frz { cls:=.type "list",data:=.seq vs.toArray } (.lst (ns.map V.int))) else none) (fun b=>?_) (.inl (.inr ⟨{ cls:=.type "list",data:=.seq vs.toArray },if_pos rfl⟩)) (fun b u z=>?_) (fun b z=>?_) fun _=>hk
  ·by_cases hb:b=a
   ·exact .inr ⟨_,_,if_pos hb⟩
   ·exact .inl (if_neg hb)
  ·by_cases hb:b=a
   ·have z':=(if_pos hb).symm.trans z
    cases z'
    subst hb
    exact ⟨ha,by rw [List.length_map];exact hl,vs,_,rv,ha⟩
   ·have z':=(if_neg hb).symm.trans z
    cases z'
  ·by_cases hb:b=a
   ·exact hb
   ·exact absurd (if_neg hb) z
end L2
namespace L2
open PySem PySem.Spec PyProof.Rows
abbrev KOf {K:PySem.W.Frag} {h:Heap} (_:K.In h):PySem.W.Frag:=K
theorem JF {l:PySem.W.OpenLaw} {n k:Nat} {q:Program} {loose:List Str} {XP:(Str->Option Value)->Heap->Prop} {YP:World->Heap->Prop} {d:DefRec} {K:Params->PySem.W.Frag} {CX:World->CXT} {sp:World->Sp} {x:Str}
  (hn:l.most=some n) (hn2:n<=sizeLine) (hdf:d.params.defaults=[]) (himp:importsNone q=true) (hr:Room k callerA)
  (hY:∀ (w:World) (h:Heap),YP w h->(K w.params).In h)
  (F:∀ (w:World) (mg:Str->Option Value) (fa:Addr) (h:Heap),(K w.params).In h->h.Ns mainGlobals mg->mg d.name=some (.ref fa) ->
   ∃ fd:FuncData,(∀ (s:Shared) (u:Value),BindsTo s fd ⟨[u],[]⟩ [(x,u)]) ∧
    ∀ base:Heap,(K w.params).In base->base.Ns mainGlobals mg->FnOk l.prog w (K w.params) mg base (CX w) k fa fd [x] (sp w))
  (hsp:∀ (w:World) (H:Hp) (a:Addr) (ns:List Int),ns.length<=n->Only H->SqL (K w.params) H a (ns.map V.int)->sp w [.ref a] H (fun v _=>v = .bl true) fun _ _ _=>False)
  (hCX:∀ (w:World) (H:Hp) (s:Shared) (e:Value) (s':Shared),CX w [] H s (fun _ _ _=>False) e s'->False) :
  PySem.W.WalkO q loose XP YP l.row.toRowW d [] (fun f vs=>PySem.call f vs):=by
 refine Att.wy hn hdf fun w s₀ s₁ mg mb fa o pm cd doc a vs ns G Y ho hd hcd hmg hobj hints hlen hg=>?_
 have KX:=hY w _ Y
 obtain ⟨fd,hb,hF⟩:=F w mg fa _ KX G.T.g hmg
 exact Fo KX G.T.g G.T.b G.T.builtins G.T.nolimit (G.T.seer himp) hg hobj hints (Nat.le_trans hlen hn2) hr hF hb (fun H hO hS=>hsp w H a ns hlen hO hS) fun H e s'=>hCX w H s₁ e s'
end L2
namespace L2
open PySem PySem.Spec PyProof.Rows
abbrev CX0:CXT:=fun _ _ _ _ _ _=>False
abbrev E0:XK:=fun _ _ _=>False
theorem JW {X:Cx}:qY CX0 X E0:=fun _ _ _ _ _ _ _ h=>h.elim
structure Fun (K:PySem.W.Frag) (x qual:Str) (st:Stmt) (f:Addr) (fd:FuncData):Prop where
 ex:∃ (oc:Value) (od:Option Addr) (kV doc pm:Value) (an:Option Addr) (cdv ct:Value) (osl:Array (Option Value)),
  fd=PySem.W.fnOf x qual (iQ st) (fL st) (aC st) .none kV doc pm an cdv ct∧K.lookup f=some ⟨oc,od,.func fd,osl⟩∧PySem.W.codeIn K cdv qual=true
 kp:PySem.W.keepIn K (.ref f)=true
section
variable {P:Program} {w:World} {K:PySem.W.Frag} {mg:Str->Option Value} {base:Heap}
theorem Fun.ok {x qual:Str} {st:Stmt} {f:Addr} {fd:FuncData} {N ps:List Str} {k:Nat} {sp:Sp} (F:Fun K x qual st f fd) (S:FnScope N ps (aC st)) (len:∀ vs H Q E,sp vs H Q E->vs.length=ps.length)
  (hbody:∀ (cdv:Value) (A:Around) (outer:List Env) (s:Shared) (H:Hp) (vs:List V) (Q:VK) (E:XK),Room k (A.deeper (envOfC qual (aC st) s.heap.objs.size f cdv))->sp vs H Q E ->
   ∃ t,PSs (qp CX0 P w K mg base N qual (aC st) f cdv A outer s H E).nox (fL st) t∧t { nx:=fun _ H'=>Q .non H',rt:=Q } (start N vs) H):FnOk P w K mg base CX0 (k+1) f fd ps sp:=by
 obtain ⟨oc,od,kV,doc,pm,an,cdv,ct,osl,rfl,lk,hcd⟩:=F.ex
 refine JQ lk hcd S len fun A outer s H vs Q E hr hsp=>?_
 obtain ⟨t,h,q⟩:=hbody cdv A outer s H vs Q E hr hsp
 exact ⟨t,h.nox,q⟩
theorem Fun.binds {x qual:Str} {st:Stmt} {f:Addr} {fd:FuncData} {ps:List Str} (F:Fun K x qual st f fd)
  (h:∀ (kV doc pm:Value) (an:Option Addr) (cdv ct:Value) (us:List Value),us.length=ps.length->bindArgs (PySem.W.fnOf x qual (iQ st) (fL st) (aC st) .none kV doc pm an cdv ct) ⟨us,[]⟩=pure (ps.zip us)):Binds K fd ps []:=by
 obtain ⟨oc,od,kV,doc,pm,an,cdv,ct,osl,rfl,lk,hcd⟩:=F.ex
 exact .all (h kV doc pm an cdv ct)
theorem yQ {x qual:Str} {st:Stmt} {f:Addr} {oc:Value} {od an:Option Addr} {osl:Array (Option Value)} {kV doc pm cdv ct:Value} (l:K.lookup f=some ⟨oc,od,.func (PySem.W.fnOf x qual (iQ st) (fL st) (aC st) .none kV doc pm an cdv ct),osl⟩)
  (c:PySem.W.codeIn K cdv qual=true) (k:PySem.W.keepIn K (.ref f)=true):Fun K x qual st f (PySem.W.fnOf x qual (iQ st) (fL st) (aC st) .none kV doc pm an cdv ct):=⟨⟨oc,od,kV,doc,pm,an,cdv,ct,osl,rfl,l,c⟩,k⟩
end
section
variable {X:Cx}
end
def qm (H H':Hp):Prop:=∀ b o,H b=some o->H' b=some o
theorem qm.refl (H:Hp):qm H H:=fun _ _ h=>h
theorem qm.trans {H H1 H2:Hp} (a:qm H H1) (b:qm H1 H2):qm H H2:=fun c o h=>b c o (a c o h)
theorem qm.free {H H':Hp} (e:qm H H') {l:Addr} (h:H' l=Option.none):H l=Option.none:=by
 cases q:H l with
 | none=>rfl
 | some o=>
  rw [e l o q] at h
  cases h
theorem qm.seq {K:PySem.W.Frag} {H H':Hp} {a:Addr} {xs:List V} (e:qm H H') (h:SqL K H a xs):SqL K H' a xs:=by
 rcases h with (h | ⟨o,h⟩) | h
 ·exact .inl (.inl (e _ _ h))
 ·exact .inl (.inr ⟨o,e _ _ h⟩)
 ·exact .inr h
end L2
namespace L2
open PySem PySem.Spec PyProof.Rows
def NP (i j:Int):Prop:=i.natAbs<2 ^ 4000∧j.natAbs<2 ^ 4000
theorem NP.ok {i j:Int} (h:NP i j):IntMulOk i j:=
 IntMulOk.of_le (intBits_le_iff.mpr h.1) (intBits_le_iff.mpr h.2) (by decide)
section
variable {X:Cx}
theorem eE:gq X (.builtin "isinstance") (fun xs H Q=>∃ (x:V) (T:String) (t:Value) (b:Bool),xs=[x,.ty T]∧TyOf X.K H x t∧PySem.W.kitOne X.K t (.type T)=some b∧Q (.bl b) H):=by
 intro pins s σ H xs us Q I r h
 obtain ⟨x,T,t,b,rfl,ty,e,q⟩:=h
 obtain ⟨u,u2,rfl,rx,ry⟩:=vals2 r
 cases (show u2=Value.type T from ry)
 exact Cy I rx ty e fun tk=>⟨.bl b,H,I.tok tk,rfl,q⟩
theorem pW:∀ {bs:List Bool} {us:List Value},Vals (bs.map V.bl) us->LSm.BoolsAre us bs
 | [],_,.nil=>.nil
 | b :: bs,_,.cons r t=>by
  cases (show _=Value.bool b from r)
  exact .cons _ (pW t)
theorem fV (hc:X.calm=true):gq X (.builtin "all") (fun xs H Q=>∃ (p:Addr) (bs:List Bool),xs=[.ref p]∧SqL X.K H p (bs.map V.bl)∧Q (.bl (bs.all id)) H):=by
 intro pins s σ H xs us Q I r h
 obtain ⟨p,bs,rfl,hp,q⟩:=h
 obtain ⟨u,rfl,ru⟩:=vals1 r
 cases (show u=Value.ref p from ru)
 obtain ⟨its,rv,pl,hz⟩:=I.list hp
 have lt:p<s.heap.objs.size:=by
  obtain ⟨o,n,e,_⟩:=pl
  exact Heap.lt_size e
 have ba:=pW rv
 have hd:=I.ok.hd hc
 refine call_all_walk (wpAny_pyIter_list pl.isList ?_)
 refine ⟨s.heap.objs.size,[s.heap.objs.size,p],[s.heap.objs.size],its.toArray.size,_,_,fun i=>(bs[i]?).getD true,rfl,
  Walks.list (A:=X.A.in1) hd _ p (Nat.ne_of_lt lt) its.toArray,⟨⟨_,Heap.get?_push_size _ rfl,rfl,rfl⟩,pl.isList.push _⟩,fun i v s' Q' E' hP hQ=>?_,fun h' tk hk=>?_⟩
 ·obtain ⟨b,e,rfl⟩:=ba.get i v (by simpa using hP)
  dsimp only at hQ
  rw [e] at hQ
  exact wpAny_truthy_bool hQ
 ·have e:((List.range its.toArray.size).all fun i=>(bs[i]?).getD true)=bs.all id:=by
   rw [List.size_toArray,ba.length];exact LSm.range_all bs
  rw [e]
  exact ⟨.bl (bs.all id),H,I.kept (LSm.kept_iter hk),rfl,q⟩
end
mutual
inductive Dp (K:PySem.W.Frag) (H:Hp):V->PyData->Prop where
 | non:Dp K H .non .none
 | bl (b:Bool):Dp K H (.bl b) (.bool b)
 | int (i:Int):Dp K H (.int i) (.int i)
 | str (x:Str):Dp K H (.str x) (.str x)
 | lst {a:Addr} {xs:List V} {ds:List PyData}:SqL K H a xs->DpAll K H xs ds->Dp K H (.ref a) (.list ds)
 | tup {a:Addr} {xs:List V} {ds:List PyData}:SqT K H a xs->DpAll K H xs ds->Dp K H (.ref a) (.tuple ds)
inductive DpAll (K:PySem.W.Frag) (H:Hp):List V->List PyData->Prop where
 | nil:DpAll K H [] []
 | cons {x:V} {xs:List V} {d:PyData} {ds:List PyData}:Dp K H x d->DpAll K H xs ds->DpAll K H (x :: xs) (d :: ds)
end
section
variable {X:Cx} {pins:List (Addr×Obj)} {σ : St} {H:Hp} {s:Shared}
mutual
theorem Dp.reads (I:Inv X pins σ H s):∀ {x:V} {d:PyData} {u:Value},Dp X.K H x d->RelV x u -> ∃ as,Reads s.heap u d as
 | _,_,u,.non,r=>by cases (show u=Value.none from r);exact ⟨_,.none⟩
 | _,_,u,.bl b,r=>by cases (show u=Value.bool b from r);exact ⟨_,.bool b⟩
 | _,_,u,.int i,r=>by obtain ⟨t,e⟩:=(show ∃ t,u=Value.int i t from r);cases e;exact ⟨_,.int i t⟩
 | _,_,u,.str x,r=>by obtain ⟨t,e⟩:=(show ∃ t,u=Value.str x t from r);cases e;exact ⟨_,.str x t⟩
 | _,_,u,.lst (a:=a) hq hd,r=>by
  cases (show u=Value.ref a from r)
  obtain ⟨its,rv,p,hz⟩:=I.list hq
  obtain ⟨as,q⟩:=DpAll.reads I hd rv
  obtain ⟨o,ho,hc,n,hdt⟩:=p.isList
  exact ⟨_,Reads.list ho hc hdt (by simpa using q)⟩
 | _,_,u,.tup (a:=a) hq hd,r=>by
  cases (show u=Value.ref a from r)
  obtain ⟨its,rv,p,hz⟩:=I.tuple hq
  obtain ⟨as,q⟩:=DpAll.reads I hd rv
  obtain ⟨o,ho,hc,n,hdt⟩:=p
  exact ⟨_,Reads.tuple ho hc hdt (by simpa using q)⟩
theorem DpAll.reads (I:Inv X pins σ H s):∀ {xs:List V} {ds:List PyData} {us:List Value},DpAll X.K H xs ds->Vals xs us -> ∃ as,ReadsAll s.heap us ds as
 | _,_,_,.nil,.nil=>⟨_,.nil⟩
 | _,_,_,.cons h t,.cons r rr=>by
  obtain ⟨as,q⟩:=Dp.reads I h r
  obtain ⟨bs,p⟩:=DpAll.reads I t rr
  exact ⟨_,.cons q p⟩
end
end
section
variable {X:Cx}
def Pg (K:PySem.W.Frag):R2:=fun x y H Q=>∃ d e,Dp K H x d∧Dp K H y e∧SeqAt.shaped d=true∧SeqAt.shaped e=true∧Q (.bl (PyData.eqv d e)) H
def Pq (K:PySem.W.Frag):R2:=fun x y H Q=>∃ d e,Dp K H x d∧Dp K H y e∧SeqAt.shaped d=true∧SeqAt.shaped e=true∧Q (.bl (!PyData.eqv d e)) H
theorem jL (hu:X.A.units+64<cLine):OpR X (compareOp .Eq) (Pg X.K):=by
 intro pins s σ H x y v u Q I rx ry h
 obtain ⟨d,e,hx,hy,sx,sy,q⟩:=h
 obtain ⟨as,r1⟩:=hx.reads I rx
 obtain ⟨bs,r2⟩:=hy.reads I ry
 exact eq_dataH r1 r2 sx sy hu ⟨.bl _,H,I,rfl,q⟩
theorem Gg (hu:X.A.units+64<cLine):OpR X (compareOp .NotEq) (Pq X.K):=by
 intro pins s σ H x y v u Q I rx ry h
 obtain ⟨d,e,hx,hy,sx,sy,q⟩:=h
 obtain ⟨as,r1⟩:=hx.reads I rx
 obtain ⟨bs,r2⟩:=hy.reads I ry
 exact ne_dataH r1 r2 sx sy hu ⟨.bl _,H,I,rfl,q⟩
end
end L2
namespace L2
open PySem PySem.Spec PyProof.Rows
section
variable {prog:Program} {w:World} {A:Around} {R:Result->Shared->Prop} {s:Shared}
abbrev BR (ifs:List Expr) (env:Env):Sem Bool:=
 forIn ifs true fun c r=>if r=true then do let ok ← isTrue c env (eval c env);pure (ForInStep.yield ok) else pure (ForInStep.yield r)
theorem wF {elt tg iter:Expr} {ifs:List Expr} {scope:Scope} {pos:Pos} {it acc:Value} {env:Env} (I:Nat->Shared->Prop)
  (turn:∀ n s,I n s->wpAny (model prog w) A (pyNext it) (fun r s₁ => match r with
   | none=>R (.ok .next) s₁
   | some v=>wpAny (model prog w) A (letOwnedTupleGo tg it v) (fun _ s₂ => wpAny (model prog w) A (assign tg env v) (fun _ s₃ =>
     wpAny (model prog w) A (BR ifs env) (fun ok s₄ =>
      if ok=true then wpAny (model prog w) A (eval elt env) (fun x s₅ => wpAny (model prog w) A (call (.builtin "list.append") [acc,x]) (fun _ s₆ => ∃ m,m<n∧I m s₆) (fun _ _=>False) s₅) (fun _ _=>False) s₄
      else ∃ m,m<n∧I m s₄) (fun _ _=>False) s₃) (fun _ _=>False) s₂) (fun _ _=>False) s₁) (fun _ _=>False) s)
  (n:Nat) (h:I n s) :
  codeAny (model prog w) A (.compLoop (.ListComp elt [⟨tg,iter,ifs,0⟩] scope pos) 0 it acc env) R s:=by
 have no:∀ {α : Type} {m:Sem α} {Q : α -> Shared->Prop} {E:Value->Shared->Prop} {s:Shared},wpAny (model prog w) A m Q (fun _ _=>False) s->wpAny (model prog w) A m Q E s:=
  fun h=>wpAny_mono h (fun _ _ q=>q) fun _ _ f=>f.elim
 refine codeAny_loop rfl I (fun n s hI=>?_) n h
 show wpAny _ A (Sem.onRaise (compTurn (.ListComp elt [⟨tg,iter,ifs,0⟩] scope pos) 0 it acc env) (fun x=>do noteFrame x env;theTreesLotGoes x)) _ _ s
 refine wpAny_noted ?_
 rw [compTurn_list]
 refine wpAny_bind (wpAny_standAt (wpAny_bind (wpAny_mono (no (turn n s hI)) (fun r s₁ h₁ => ?_) fun _ _ z=>z)))
 cases r with
 | none=>exact wpAny_pure h₁
 | some v=>
  refine wpAny_bind (wpAny_mono (no h₁) (fun _ s₂ h₂ => ?_) fun _ _ z=>z)
  refine wpAny_bind (wpAny_mono (no h₂) (fun _ s₃ h₃ => ?_) fun _ _ z=>z)
  refine wpAny_bind (wpAny_mono (no h₃) (fun ok s₄ h₄ => ?_) fun _ _ z=>z)
  cases ok with
  | false=>exact wpAny_pure ⟨rfl,h₄⟩
  | true=>
   refine wpAny_bind (wpAny_bind (wpAny_mono (no h₄) (fun x s₅ h₅ => ?_) fun _ _ z=>z))
   refine wpAny_bind (wpAny_mono (no h₅) (fun _ s₆ h₆ => ?_) fun _ _ z=>z)
   exact wpAny_pure (wpAny_pure ⟨rfl,h₆⟩)
end
theorem mC {env:Env}:∀ (names:List (Str×NameKind)) (cs:List (Str×Addr)),
  (∀ n,(n,NameKind.free)∈names -> ∃ c,env.cells.lookup n=some c) ->
  ∃ cl:List (Str×Addr),(forIn names cs (fun (x:Str×NameKind) (r:List (Str×Addr))=>if (x.2==NameKind.free)=true then do let c ← cellOf env x.1;pure (ForInStep.yield ((x.1,c) :: r)) else pure (ForInStep.yield r)):Sem _)=pure cl ∧
   (∀ x c,(x,c)∈cl->(x,c)∈cs∨env.cells.lookup x=some c)∧(∀ x c,(x,c)∈cs -> ∃ c',(x,c')∈cl) ∧ ∀ x,(x,NameKind.free)∈names -> ∃ c,(x,c)∈cl
 | [],cs,_=>⟨cs,rfl,fun _ _ h=>.inl h,fun x c h=>⟨c,h⟩,fun _ h=>nomatch h⟩
 | (n,k) :: r,cs,h=>by
  have hr:∀ m,(m,NameKind.free)∈r -> ∃ c,env.cells.lookup m=some c:=fun m hm=>h m (List.mem_cons_of_mem _ hm)
  by_cases hk:k=NameKind.free
  ·subst hk
   obtain ⟨c,hc⟩:=h n List.mem_cons_self
   obtain ⟨cl,e,a,b,d⟩:=mC r ((n,c) :: cs) hr
   refine ⟨cl,?_,fun x c' hx=>?_,fun x c' hx=>b x c' (List.mem_cons_of_mem _ hx),fun x hx=>?_⟩
   ·rw [List.forIn_cons]
    simp only [beq_self_eq_true,if_true,cellOf,hc,pure_bind]
    exact e
   ·rcases a x c' hx with z | z
    ·rcases List.mem_cons.mp z with z | z
     ·cases z;exact .inr hc
     ·exact .inl z
    ·exact .inr z
   ·rcases List.mem_cons.mp hx with z | z
    ·cases z;exact b n c List.mem_cons_self
    ·exact d x z
  ·obtain ⟨cl,e,a,b,d⟩:=mC r cs hr
   have hb:(k==NameKind.free)=false:=by simpa using hk
   refine ⟨cl,?_,a,b,fun x hx=>?_⟩
   ·rw [List.forIn_cons]
    simp only [hb,Bool.false_eq_true,if_false,pure_bind]
    exact e
   ·rcases List.mem_cons.mp hx with z | z
    ·cases z;exact absurd rfl hk
    ·exact d x z
theorem lw {β : Type}:∀ {l:List (Str × β)} {x:Str} {c : β},(x,c)∈l -> ∃ c',l.lookup x=some c'
 | (n,d) :: r,x,c,h=>by
  rw [List.lookup_cons]
  cases e:x==n with
  | true=>exact ⟨d,rfl⟩
  | false=>
   rcases List.mem_cons.mp h with z | z
   ·cases z;simp at e
   ·exact lw z
theorem lY {scope:Scope} {env:Env} (h:∀ n,(n,NameKind.free)∈scope.names -> ∃ c,env.cells.lookup n=some c) :
  ∃ cl,closureFor scope env=pure cl∧(∀ x c,(x,c)∈cl->env.cells.lookup x=some c) ∧ ∀ x,(x,NameKind.free)∈scope.names -> ∃ c,cl.lookup x=some c:=by
 obtain ⟨cl,e,a,_,d⟩:=mC scope.names [] h
 refine ⟨cl,?_,fun x c hx=>?_,fun x hx=>?_⟩
 ·unfold closureFor
  exact (congrArg (fun m=>m >>= fun r=>pure r) e).trans (pure_bind _ _)
 ·rcases a x c hx with z | z
  ·cases z
  ·exact z
 ·obtain ⟨c,hc⟩:=d x hx
  exact lw hc
theorem fB:∀ (names:List (Str×NameKind)) (n:Nat) (acc:List (Str×Addr)) (x:Str) (c:Addr),(cellsFrom n names acc).lookup x=some c ->
  (acc.lookup x=some c∧(x,NameKind.cell) ∉ names)∨(n<=c∧(x,NameKind.cell)∈names)
 | [],n,acc,x,c,h=>.inl ⟨h,by simp⟩
 | (y,k) :: r,n,acc,x,c,h=>by
  unfold cellsFrom at h
  split at h
  ·rename_i hk
   have hk':k=NameKind.cell:=by simpa using hk
   rcases fB r (n+1) ((y,n) :: acc) x c h with ⟨h1,h2⟩ | ⟨h1,h2⟩
   ·rw [List.lookup_cons] at h1
    cases e:x==y with
    | true=>
     rw [e] at h1
     cases h1
     exact .inr ⟨Nat.le_refl _,by rw [beq_iff_eq.mp e,hk'];exact List.mem_cons_self⟩
    | false=>
     rw [e] at h1
     refine .inl ⟨h1,fun m=>?_⟩
     rcases List.mem_cons.mp m with z | z
     ·cases z;simp at e
     ·exact h2 z
   ·exact .inr ⟨by omega,List.mem_cons_of_mem _ h2⟩
  ·rename_i hk
   rcases fB r n acc x c h with ⟨h1,h2⟩ | ⟨h1,h2⟩
   ·refine .inl ⟨h1,fun m=>?_⟩
    rcases List.mem_cons.mp m with z | z
    ·cases z;simp at hk
    ·exact h2 z
   ·exact .inr ⟨h1,List.mem_cons_of_mem _ h2⟩
theorem jE {lo:Nat}:∀ (names:List (Str×NameKind)) (n:Nat) (acc:List (Str×Addr)),lo<=n->(∀ z∈acc,lo<=z.2->z.2<n)->(∀ z∈acc,∀ z'∈acc,lo<=z.2->z.2=z'.2->z.1=z'.1) ->
  ∀ z∈cellsFrom n names acc,∀ z'∈cellsFrom n names acc,lo<=z.2->z.2=z'.2->z.1=z'.1
 | [],n,acc,_,_,h=>h
 | (y,k) :: r,n,acc,hn,h1,h2=>by
  unfold cellsFrom
  split
  ·refine jE r (n+1) ((y,n) :: acc) (by omega) (fun z hz hl=>?_) fun z hz z' hz' hl e=>?_
   ·rcases List.mem_cons.mp hz with e | hz
    ·rw [e];exact Nat.lt_succ_self _
    ·exact Nat.lt_succ_of_lt (h1 z hz hl)
   ·rcases List.mem_cons.mp hz with e1 | hz
    ·rcases List.mem_cons.mp hz' with e2 | hz'
     ·rw [e1,e2]
     ·have:=h1 z' hz' (by rw [← e];exact hl)
      rw [← e,e1] at this
      exact absurd this (Nat.lt_irrefl _)
    ·rcases List.mem_cons.mp hz' with e2 | hz'
     ·have:=h1 z hz hl
      rw [e,e2] at this
      exact absurd this (Nat.lt_irrefl _)
     ·exact h2 z hz z' hz' hl e
  ·exact jE r n acc hn h1 h2
theorem jF:∀ (names:List (Str×NameKind)) (h:Heap) (acc:List (Str×Addr)) (x:Str) (c:Addr),(x,c)∈cellsFrom h.objs.size names acc->(x,c)∈acc∨(pushCells h names).IsCell c none
 | [],h,acc,x,c,m=>.inl m
 | (y,k) :: r,h,acc,x,c,m=>by
  unfold cellsFrom at m
  unfold pushCells
  split at m
  ·rename_i hk
   rw [if_pos hk]
   have:=jF r (h.push { cls:=.type "cell",data:=.cell none }) ((y,h.objs.size) :: acc) x c (by rw [Heap.size_push];exact m)
   rcases this with z | z
   ·rcases List.mem_cons.mp z with e | z
    ·cases e
     exact .inr ⟨_,pushCells_keeps r _ _ _ (Heap.get?_push_size _ rfl),rfl⟩
    ·exact .inl z
   ·exact .inr z
  ·rename_i hk
   rw [if_neg hk]
   exact jF r h acc x c m
theorem fY {α : Type}:∀ {l:List (Str × α)} {x:Str} {k : α},(l.map (·.1)).Nodup->(x,k)∈l->l.lookup x=some k
 | (y,k') :: r,x,k,nd,m=>by
  rw [List.map_cons] at nd
  obtain ⟨h1,h2⟩:=List.nodup_cons.mp nd
  rw [List.lookup_cons]
  rcases List.mem_cons.mp m with e | m
  ·cases e;simp
  ·have hne:(x==y)=false:=by
    cases e:x==y with
    | false=>rfl
    | true=>rw [beq_iff_eq.mp e] at m;exact absurd (List.mem_map.mpr ⟨_,m,rfl⟩) h1
   rw [hne];exact fY h2 m
theorem mX {M:Model} {A:Around} {E:Value->Shared->Prop} {s:Shared} {scope:Scope} {globals:Addr} {closure:List (Str×Addr)} {qual:Str} {func:Option Addr} {code:Value} {env:Env} {builtins:Addr} {Q:Env->Shared->Prop}
  (hQ:Q (newEnv scope s.heap.objs.size globals (cellsFrom (s.heap.objs.size+1) scope.names closure) qual func code (some env) builtins) { s with heap:=pushCells (s.heap.push { cls:=.type "dict",data:=.dict #[] }) scope.names }) :
  wpAny M A (newFunctionEnv scope globals closure [] qual func code (some env) builtins) Q E s:=by
 simp only [newFunctionEnv,Option.isSome_some,if_true]
 refine wpAny_bind (wpAny_alloc ?_)
 refine wpAny_bind (wpAny_layCells _ (fun name kind cells=>by cases hkc:kind==NameKind.cell <;> simp [hkc]) _ _ _ _ ?_)
 rw [show ({ s with heap:=s.heap.push { cls:=.type "dict",data:=.dict #[] } }:Shared).heap.objs.size=s.heap.objs.size+1 from Heap.size_push ..]
 rw [List.forIn_nil]
 exact wpAny_bind (wpAny_pure (wpAny_pure hQ))
def qN (scope:Scope) (x:Str):Bool:=scope.names.any fun y=>y.1==x&&y.2==NameKind.cell
theorem ye {scope:Scope} {x:Str}:qN scope x=true↔(x,NameKind.cell)∈scope.names:=by
 unfold qN
 rw [List.any_eq_true]
 constructor
 ·rintro ⟨⟨n,k⟩,hm,h⟩
  rw [Bool.and_eq_true] at h
  obtain rfl:n=x:=beq_iff_eq.mp h.1
  obtain rfl:k=NameKind.cell:=by simpa using h.2
  exact hm
 ·intro hm
  exact ⟨_,hm,by simp⟩
abbrev Cx.comp (X:Cx) (scope:Scope) (N:List Str) (cl:List (Str×Addr)) (C:Addr) (fp:List Addr) (s₂ : Shared) (H₂ : Hp):Cx where
 prog:=X.prog
 w:=X.w
 K:=X.K
 mg:=X.mg
 base:=X.base
 A:=X.A
 N:=N
 s₀:=s₂
 H₀:=H₂
 env:=compEnvC scope cl C X.env
 outer:=X.stack
 stack:=X.stack
 ex:=fp
 fn:=qN scope
 calm:=X.calm
 pn:=[]
 xe:=fun _ _=>False
def cN (X:Cx) (own:List Str) (fr:List Nat):List Str:=own++fr.map fun j=>X.N.getD j ""
def iY (own:List Str) (fr:List Nat) (σ : St):St:=own.map (fun _=>none)++fr.map fun j=>(σ[j]?).getD none
structure CScope (X:Cx) (scope:Scope) (own:List Str) (fr:List Nat):Prop where
 kind:scope.kind = .function
 keys:(scope.names.map (·.1)).Nodup
 names:∀ y∈scope.names,y.2 = .local->scope.names.lookup y.1=some .local
 free:∀ n,(n,NameKind.free)∈scope.names->X.env.kindOf n=some .cell∨X.env.kindOf n=some .free
 frs:∀ j∈fr,j<X.N.length∧scope.names.lookup (X.N.getD j "")=some .free
 nd:(cN X own fr).Nodup
section
variable {X:Cx} {pins:List (Addr×Obj)} {σ : St} {H₂ : Hp} {s₂ : Shared} {scope:Scope} {own:List Str} {fr:List Nat} {cl:List (Str×Addr)} {fp:List Addr}
theorem sV {env:Env}:∀ {names:List (Str×NameKind)} {x:Str},
  ((names.map fun (n,k)=>if (k==NameKind.free&&env.scope.kind == .function&&env.kindOf n==some .cell) then (n,NameKind.cell) else (n,k)).lookup x=some .cell ∨
   (names.map fun (n,k)=>if (k==NameKind.free&&env.scope.kind == .function&&env.kindOf n==some .cell) then (n,NameKind.cell) else (n,k)).lookup x=some .free) ->
  (x,NameKind.free)∈names∨(x,NameKind.cell)∈names
 | [],x,h=>by simp at h
 | (n,k) :: r,x,h=>by
  have ih:=@sV env r x
  simp only [List.map_cons] at h
  by_cases hcond:(k==NameKind.free&&env.scope.kind == .function&&env.kindOf n==some .cell)=true
  ·have hk:k=NameKind.free:=by
    rw [Bool.and_eq_true,Bool.and_eq_true] at hcond
    exact beq_iff_eq.mp hcond.1.1
   rw [if_pos hcond] at h
   simp only [List.lookup_cons] at h
   cases e:x==n with
   | true=>rw [beq_iff_eq.mp e,hk];exact .inl List.mem_cons_self
   | false=>rw [e] at h;exact (ih h).imp (List.mem_cons_of_mem _) (List.mem_cons_of_mem _)
  ·rw [if_neg hcond] at h
   simp only [List.lookup_cons] at h
   cases e:x==n with
   | true=>
    rw [e] at h
    rcases h with h | h
    ·have:k = .cell:=Option.some.inj h
     rw [beq_iff_eq.mp e,this];exact .inr List.mem_cons_self
    ·have:k = .free:=Option.some.inj h
     rw [beq_iff_eq.mp e,this];exact .inl List.mem_cons_self
   | false=>rw [e] at h;exact (ih h).imp (List.mem_cons_of_mem _) (List.mem_cons_of_mem _)
theorem oh {env:Env}:∀ {names:List (Str×NameKind)} {x:Str},names.lookup x=some .free ->
  (names.map fun (n,k)=>if (k==NameKind.free&&env.scope.kind == .function&&env.kindOf n==some .cell) then (n,NameKind.cell) else (n,k)).lookup x=some .cell ∨
  (names.map fun (n,k)=>if (k==NameKind.free&&env.scope.kind == .function&&env.kindOf n==some .cell) then (n,NameKind.cell) else (n,k)).lookup x=some .free
 | [],x,h=>by simp at h
 | (n,k) :: r,x,h=>by
  have ih:=@oh env r x
  simp only [List.map_cons]
  by_cases hcond:(k==NameKind.free&&env.scope.kind == .function&&env.kindOf n==some .cell)=true
  ·rw [if_pos hcond]
   simp only [List.lookup_cons] at h ⊢
   cases e:x==n with
   | true=>exact .inl rfl
   | false=>rw [e] at h;exact ih h
  ·rw [if_neg hcond]
   simp only [List.lookup_cons] at h ⊢
   cases e:x==n with
   | true=>rw [e] at h;exact .inr h
   | false=>rw [e] at h;exact ih h
theorem HOk.adopt {P:Program} {w:World} {H:Hp} {h:Heap} {a:Addr} {o:HO} (x:HOk P w H h) (hn:H a=none) (new:dI P w (upd H a o) h a o):HOk P w (upd H a o) h:=fun b u e=>by
 by_cases hb:b=a
 ·subst hb
  rw [cD] at e
  cases e
  exact new
 ·rw [bG hb] at e
  exact (x b u e).stay (fun c v _ q=>q) (fun c q=>(bG (bQ q hn)).trans q) fun c xs q=>(bG (bQ q hn)).trans q
structure CellsAt (X:Cx) (scope:Scope) (cs:List (Str×Addr)) (C:Addr):Prop where
 old:∀ x c,cs.lookup x=some c->X.env.cells.lookup x=some c∨C<c
 has:∀ x,((x,NameKind.free)∈scope.names∨(x,NameKind.cell)∈scope.names) -> ∃ c,cs.lookup x=some c
 fre:∀ x,(x,NameKind.free)∈scope.names -> ∃ c,cs.lookup x=some c∧X.env.cells.lookup x=some c
 cab:∀ x c,qN scope x=true->cs.lookup x=some c->C<c
 inj:∀ x y c,C<c->cs.lookup x=some c->cs.lookup y=some c->x=y
theorem Hx {C:Addr} (I:Inv X pins σ H₂ s₂) (S:CScope X scope own fr) (cs:CellsAt X scope cl C)
  (f:∀ b∈fp,qW X pins H₂ b) (ho:∀ b∈fp,b<s₂.heap.objs.size) (hC:s₂.heap.objs.size<=C):(X.comp scope (cN X own fr) cl C fp s₂ H₂).Ok where
 mod:=I.ok.mod
 kind:=S.kind
 glob:=I.ok.glob
 blt:=I.ok.blt
 above:=hC
 inj:=fun x y c e1 e2=>by
  by_cases hc:C<c
  ·exact cs.inj x y c hc e1 e2
  ·exact I.ok.inj x y c ((cs.old x c e1).resolve_right hc) ((cs.old y c e2).resolve_right hc)
 has:=fun x hx=>cs.has x (sV hx)
 cab:=fun x c h e=>Nat.le_of_lt (Nat.lt_of_le_of_lt hC (cs.cab x c h e))
 hd:=I.ok.hd
 frames:=I.ok.frames
 stk:=.inl rfl
 exf:=fun b hb=>⟨Nat.ne_of_lt (Nat.lt_of_lt_of_le (ho b hb) hC),fun x c e=>by
  rcases cs.old x c e with z | z
  ·exact (f b hb).2.2.2.2.1 x c z
  ·exact Nat.ne_of_gt (Nat.lt_trans (Nat.lt_of_lt_of_le (ho b hb) hC) z)⟩
 bs:=I.bs
 bsz:=Nat.le_trans I.ok.bsz I.sz
 noex:=fun b o e hb=>by
  rcases (f b hb).2.2.2.1 with z | z
  ·exact I.ok.noex b o e z
  ·exact absurd (Nat.lt_of_lt_of_le (Heap.lt_size e) (Nat.le_trans I.ok.bsz z)) (Nat.lt_irrefl _)
 exfs:=fun b hb z=>(List.mem_cons.mp (I.stkSub b z)).elim (f b hb).2.1 (f b hb).2.2.1
 funs:=I.stack
 frf:=I.stkFree
theorem yO {C:Addr} {h4:Heap} {tk:Nat} {m:Str->Option Value} (I:Inv X pins σ H₂ s₂) (S:CScope X scope own fr) (cs:CellsAt X scope cl C) (hnew:∀ x c,cl.lookup x=some c->C<c->h4.IsCell c none)
  (f:∀ b∈fp,qW X pins H₂ b) (ho:∀ b∈fp,b<s₂.heap.objs.size) (hC:s₂.heap.objs.size<=C) (hn:h4.Ns C m) (old:∀ b o,s₂.heap.get? b=some o->h4.get? b=some o) :
  Inv (X.comp scope (cN X own fr) cl C fp s₂ H₂) [] (iY own fr σ) H₂ { s₂ with heap:=h4,toks:=tk } where
 ok:=Hx I S cs f ho hC
 os:=rfl
 bare:=I.bare
 base:=Un.kept old
 loc:=by
  refine ⟨m,hn,fun i x v e1 e2 e3=>?_⟩
  have e1':(own++fr.map fun j=>X.N.getD j "")[i]? = some x:=e1
  have e2':(own.map (fun _=>(none:Option V))++fr.map fun j=>(σ[j]?).getD none)[i]? = some (some v):=e2
  by_cases hi:i<own.length
  ·rw [List.getElem?_append_left (by simpa using hi),List.getElem?_map] at e2'
   cases q:own[i]? with
   | none=>rw [q] at e2';cases e2'
   | some y=>rw [q] at e2';cases e2'
  ·have hi':own.length<=i:=Nat.not_lt.mp hi
   rw [List.getElem?_append_right hi',List.getElem?_map] at e1'
   rw [List.getElem?_append_right (by simpa using hi'),List.getElem?_map,List.length_map] at e2'
   cases q:fr[i - own.length]? with
   | none=>rw [q] at e1';cases e1'
   | some j=>
    rw [q] at e1' e2'
    have hx:X.N.getD j "" = x:=Option.some.inj e1'
    have hv:(σ[j]?).getD none=some v:=Option.some.inj e2'
    obtain ⟨hj,hl⟩:=S.frs j (List.mem_of_getElem? q)
    have hN:X.N[j]? = some x:=by
     rw [← hx,List.getD_eq_getElem?_getD,List.getElem?_eq_getElem hj];rfl
    have hσ : σ[j]? = some (some v):=by
     cases z : σ[j]? with
     | none=>rw [z] at hv;cases hv
     | some w=>rw [z] at hv;rw [show w=some v from hv]
    rw [hx] at hl
    have hfree:=PySem.mem_of_lookup hl
    have hk:=S.free x hfree
    obtain ⟨m',hm',hl'⟩:=I.loc
    obtain ⟨u,ru,lk⟩:=hl' j x v hN hσ (.inr hk)
    refine ⟨u,ru,?_⟩
    rcases lk with ⟨k1,_⟩ | ⟨_,c,hc,o,hoc,hd⟩
    ·exfalso
     rcases hk with z | z
     ·rw [z] at k1;cases k1
     ·rw [z] at k1;cases k1
    ·obtain ⟨c',hc',this⟩:=cs.fre x hfree
     rw [hc] at this
     cases this
     exact .inr ⟨oh hl,c,hc',o,old _ _ hoc,hd⟩
 cell:=fun x c e=>by
  rcases cs.old x c e with z | z
  ·obtain ⟨v,o,hoc,hd⟩:=I.cell x c z
   exact ⟨v,o,old _ _ hoc,hd⟩
  ·exact ⟨none,hnew x c e z⟩
 free:=I.hok.fresh hC
 freeC:=fun x c e=>by
  rcases cs.old x c e with z | z
  ·exact I.freeC x c z
  ·exact I.hok.fresh (Nat.le_trans hC (Nat.le_of_lt z))
 pin:=fun p hp=>absurd (show p∈([]:List (Addr×Obj)) from hp) (by simp)
 hok:=I.hok.kept old
 len:=by
  show (own.map (fun _=>(none:Option V))++fr.map fun j=>(σ[j]?).getD none).length=(own++fr.map fun j=>X.N.getD j "").length
  simp
end
def PTs (X:Cx) (ifs:List Expr) (t:TT):Prop:=
 ∀ (pins:List (Addr×Obj)) (s:Shared) (σ : St) (H:Hp) (Q:Bool->Hp->Prop),Inv X pins σ H s->t σ H Q->wpAny (model X.prog X.w) X.A (BR ifs X.env) (TP X pins σ Q) X.xe s
def Jw:TT:=fun _ H Q=>Q true H
theorem Je {X:Cx}:PTs X [] Jw:=fun _ _ _ H _ I h=>wpAny_tests_nil ⟨H,I,h⟩
section
variable {X:Cx} {pins:List (Addr×Obj)} {σ : St} {H₂ : Hp} {s₂ : Shared} {scope:Scope} {own:List Str} {fr:List Nat} {cl:List (Str×Addr)} {fp:List Addr}
 {tg elt iter:Expr} {ifs:List Expr} {pos:Pos} {J:It} {it:Addr} {tn:Nat->Heap->Prop} {g:TG} {tt:TT} {te:TE} {RR:Value->Addr->Result->Shared->Prop} {E:Value->Shared->Prop} {Fin:List V->Hp->Prop}
theorem ur (I2:Inv X pins σ H₂ s₂) (hc:X.calm=true) (S:CScope X scope own fr) (h1:∀ x c,(x,c)∈cl->X.env.cells.lookup x=some c) (h2:∀ x,(x,NameKind.free)∈scope.names -> ∃ c,cl.lookup x=some c)
  (T:Turn X.prog X.w X.K tg J fp it tn) (st2:tn 0 s₂.heap) (f2:∀ b∈fp,qW X pins H₂ b)
  (hg:∀ cl C,PG (X.comp scope (cN X own fr) cl C fp s₂ H₂) tg g) (ht:∀ cl C,PTs (X.comp scope (cN X own fr) cl C fp s₂ H₂) ifs tt) (he:∀ cl C,PE (X.comp scope (cN X own fr) cl C fp s₂ H₂) elt te)
  (W:Nat->Nat->List V->St->Hp->Prop) (m0:Nat) (w0:W 0 m0 [] (iY own fr σ) H₂)
  (turn:∀ i m ys σ' H',W i m ys σ' H'->(J.stop i H'∧Fin ys H')∨(J.go i H'∧ys.length<sizeLine ∧ ∀ x H3,J.yld i H' x H3->g x σ' H3 fun σ4 H4=>tt σ4 H4 fun b H5=>
   if b=true then te σ4 H5 fun y H6=>∃ m',m'<m∧W (i+1) m' (ys++[y]) σ4 H6 else ∃ m',m'<m∧W (i+1) m' ys σ4 H5))
  (hR:∀ D C s' H' ys m,Inv X pins σ (upd H' D (.lst ys)) s'->s'.heap.Ns C m->qW X pins (upd H' D (.lst ys)) C->H' D=none->Fin ys H'->RR (.ref D) C (.ok .next) s') :
  wpAny (model X.prog X.w) X.A (newList []) (fun acc s₃ => wpAny (model X.prog X.w) X.A (newFunctionEnv scope X.env.globals cl [] X.env.qual none .none (some X.env)) (fun cenv s₄ =>
   codeAny (model X.prog X.w) X.A (.compStart (.ListComp elt [⟨tg,iter,ifs,0⟩] scope pos) 0 (.ref it) acc { cenv with scope:=relabel scope X.env }) (RR acc cenv.locals) s₄) E s₃) E s₂:=by
 refine wpAny_newObj_type (mX ?_)
 dsimp only
 generalize eG:s₂.heap.push { cls:=.type "list",dict:=none,data:=.seq ([]:List Value).toArray }=G
 have sG:G.objs.size=s₂.heap.objs.size+1:=by rw [← eG,Heap.size_push]
 have hDC:s₂.heap.objs.size≠G.objs.size:=by rw [sG];exact Nat.ne_of_lt (Nat.lt_succ_self _)
 have hCle:s₂.heap.objs.size<=G.objs.size:=by rw [sG];exact Nat.le_succ _
 have neC:∀ b,b<s₂.heap.objs.size->b≠G.objs.size:=fun b hb=>Nat.ne_of_lt (Nat.lt_of_lt_of_le hb hCle)
 have cellLt:∀ x c,X.env.cells.lookup x=some c->c<s₂.heap.objs.size:=fun x c e=>let ⟨v,q⟩:=I2.cell x c e;q.lt
 have cs:CellsAt X scope (cellsFrom (G.objs.size+1) scope.names cl) G.objs.size:={
  old:=fun x c e=>by
   rcases fB _ _ _ x c e with ⟨z,_⟩ | ⟨z,_⟩
   ·exact .inl (h1 x c (PySem.mem_of_lookup z))
   ·exact .inr z
  has:=fun x hx=>by
   refine Option.isSome_iff_exists.mp (PySem.W.cellsFrom_some scope.names _ cl ?_)
   rcases hx with z | z
   ·obtain ⟨c,hc⟩:=h2 x z
    exact .inr (by rw [hc];rfl)
   ·exact .inl (fY S.keys z)
  fre:=fun x hx=>by
   obtain ⟨c,hc⟩:=h2 x hx
   obtain ⟨c',hc'⟩:=Option.isSome_iff_exists.mp (PySem.W.cellsFrom_some scope.names (G.objs.size+1) cl (.inr (by rw [hc];rfl)) (x:=x))
   rcases fB _ _ _ x c' hc' with ⟨z,_⟩ | ⟨_,z⟩
   ·exact ⟨c',hc',h1 x c' (PySem.mem_of_lookup z)⟩
   ·have:=fY S.keys z
    rw [fY S.keys hx] at this
    cases this
  cab:=fun x c ho e=>by
   rcases fB _ _ _ x c e with ⟨_,z⟩ | ⟨z,_⟩
   ·exact absurd (ye.mp ho) z
   ·exact z
  inj:=fun x y c hc e1 e2=>by
   have low:∀ z∈cl,¬ G.objs.size+1<=z.2:=fun z hz hl=>by
    have:=cellLt z.1 z.2 (h1 z.1 z.2 hz)
    exact absurd (Nat.lt_of_lt_of_le this hCle) (Nat.not_lt.mpr (Nat.le_of_succ_le hl))
   exact jE (lo:=G.objs.size+1) scope.names _ cl (Nat.le_refl _) (fun z hz hl=>absurd hl (low z hz)) (fun z hz z' _ hl _=>absurd hl (low z hz)) (x,c) (PySem.mem_of_lookup e1) (y,c) (PySem.mem_of_lookup e2) hc rfl }
 generalize e4:pushCells (G.push { cls:=.type "dict",data:=.dict #[] }) scope.names=h4
 have up:∀ b o,G.get? b=some o->h4.get? b=some o:=fun b o e=>by rw [← e4];exact pushCells_keeps _ _ _ _ (Heap.get?_push_of_some _ e)
 have hn4:h4.Ns G.objs.size (fun _=>none):=by rw [← e4];exact (Heap.Ns.new G (.type "dict")).keeps (pushCells_keeps _ _)
 have hnew:∀ x c,(cellsFrom (G.objs.size+1) scope.names cl).lookup x=some c->G.objs.size<c->h4.IsCell c none:=fun x c e hc=>by
  rcases jF scope.names (G.push { cls:=.type "dict",data:=.dict #[] }) cl x c (by rw [Heap.size_push];exact PySem.mem_of_lookup e) with z | z
  ·have:=cellLt x c (h1 x c z)
   exact absurd (Nat.lt_trans (Nat.lt_of_lt_of_le this hCle) hc) (Nat.lt_irrefl _)
  ·rw [← e4];exact z
 have old:∀ b o,s₂.heap.get? b=some o->h4.get? b=some o:=fun b o e=>up b o (by rw [← eG];exact Heap.get?_push_of_some _ e)
 have hD4:h4.get? s₂.heap.objs.size=some { cls:=.type "list",data:=.seq ([]:List Value).toArray 0 }:=up _ _ (by rw [← eG];exact Heap.get?_push_size _ rfl)
 generalize ecs:cellsFrom (G.objs.size+1) scope.names cl=cl' at cs hnew ⊢
 have ho:∀ b∈fp,b<s₂.heap.objs.size:=fun b hb=>let ⟨_,e,_⟩:=T.obj 0 _ st2 b hb;Heap.lt_size e
 have nD:s₂.heap.objs.size ∉ fp:=fun z=>Nat.lt_irrefl _ (ho _ z)
 have nf:∀ {b:Addr},s₂.heap.objs.size<=b->b ∉ frs X.stack:=fun {b} hb z=>by
  rcases List.mem_cons.mp (I2.stkSub b z) with e | e
  ·exact absurd (Nat.lt_of_lt_of_le I2.lt (by rw [← e];exact hb)) (Nat.lt_irrefl _)
  ·exact I2.nofs hb e
 have cellNe:∀ x c,cl'.lookup x=some c->c≠s₂.heap.objs.size:=fun x c e z=>by
  rcases cs.old x c e with q | q
  ·exact Nat.ne_of_lt (cellLt x c q) z
  ·exact Nat.lt_irrefl _ (Nat.lt_of_lt_of_le q (by rw [z];exact hCle))
 have stat:∀ {H':Hp} {o:Obj},(∀ b∈fp,H' b=none) -> ∀ b∈fp,qW (X.comp scope (cN X own fr) cl' G.objs.size fp s₂ H₂) [(s₂.heap.objs.size,o)] H' b:=fun {H' o} hn b hb=>
  ⟨hn b hb,neC b (ho b hb),fun z=>(List.mem_cons.mp (I2.stkSub b z)).elim (f2 b hb).2.1 (f2 b hb).2.2.1,.inl hb,fun x c e=>(by
   rcases cs.old x c e with q | q
   ·exact (f2 b hb).2.2.2.2.1 x c q
   ·exact fun z=>Nat.lt_irrefl _ (Nat.lt_trans (Nat.lt_of_lt_of_le (ho b hb) hCle) (by rw [z] at q;exact q))),fun p hp z=>by
   have e:p=(s₂.heap.objs.size,o):=by simpa using hp
   subst e
   exact nD (by rw [show s₂.heap.objs.size=b from z];exact hb)⟩
 have I4:=yO (cl:=cl') (tk:=s₂.toks) I2 S cs hnew f2 ho hCle hn4 old
 have loop:codeAny (model X.prog X.w) X.A (.compLoop (.ListComp elt [⟨tg,iter,ifs,0⟩] scope pos) 0 (.ref it) (.ref s₂.heap.objs.size) (compEnvC scope cl' G.objs.size X.env)) (RR (.ref s₂.heap.objs.size) G.objs.size)
   { s₂ with heap:=h4,toks:=s₂.toks }:=by
  refine wF (fun n s'=>∃ i ys its k σ' H',Inv (X.comp scope (cN X own fr) cl' G.objs.size fp s₂ H₂) [] σ' H' s'∧tn i s'.heap∧(∀ b∈fp,H' b=none) ∧
   s'.heap.get? s₂.heap.objs.size=some { cls:=.type "list",data:=.seq (its:List Value).toArray k }∧Vals ys its∧H' s₂.heap.objs.size=none∧ys.length<=sizeLine∧W i n ys σ' H') ?_ m0
   ⟨0,[],[],0,iY own fr σ,H₂,I4,T.keep _ _ _ st2 (fun b _ o e=>old b o e),fun b hb=>(f2 b hb).1,hD4,.nil,I2.hok.fresh (Nat.le_refl _),Nat.zero_le _,w0⟩
  rintro n s5 ⟨i,ys,its,k,σ5,H5,I5,st5,fr5,hD5,rv5,hn5,hz5,w5⟩
  have pinD:Inv (X.comp scope (cN X own fr) cl' G.objs.size fp s₂ H₂) [(s₂.heap.objs.size,{ cls:=.type "list",data:=.seq its.toArray k })] σ5 H5 s5:=I5.pins_of fun p hp=>by
   have e:p=(s₂.heap.objs.size,{ cls:=.type "list",data:=.seq its.toArray k }):=by simpa using hp
   subst e
   exact ⟨hD5,hn5,hDC,nf (Nat.le_refl _),fun v z=>nomatch z⟩
  rcases turn i n ys σ5 H5 w5 with ⟨stop,fin⟩ | ⟨go,hzl,step⟩
  ·refine thn (T.done (X.comp scope (cN X own fr) cl' G.objs.size fp s₂ H₂) rfl rfl rfl hc i _ s5 σ5 H5 (fun _ _=>False) pinD (stat fr5) st5 stop) fun r s6 ⟨hr,I6⟩=>?_
   subst hr
   have hD6:=(I6.pin _ (List.mem_append_right _ List.mem_cons_self)).1
   obtain ⟨m6,hn6,_⟩:=I6.loc
   have hk6:HOk X.prog X.w (upd H5 s₂.heap.objs.size (.lst ys)) s6.heap:=I6.hok.adopt hn5 ⟨hz5,its,k,rv5,hD6⟩
   have bne:∀ b o,s₂.heap.get? b=some o->b≠s₂.heap.objs.size:=fun b o e=>Nat.ne_of_lt (Heap.lt_size e)
   have tne:∀ b o,H5 b=some o->b≠s₂.heap.objs.size:=fun b o e=>bQ e hn5
   have un6:Un (frs X.stack) fp H₂ (upd H5 s₂.heap.objs.size (.lst ys)) s₂.heap s6.heap:=
    ⟨I6.base.keep,I6.base.slot,fun b o e n hx=>by rw [bG (bne b o e)];exact I6.base.free b o e n hx,I6.base.there,
     fun b xs e=>by have z:=I6.base.tups b xs e;rw [bG (tne b _ z)];exact z,fun b o u e=>by have z:=I6.base.frzs b o u e;rw [bG (tne b _ z)];exact z,
     fun b ps e=>by obtain ⟨mo,z⟩:=I6.base.tbls b ps e;exact ⟨mo,by rw [bG (tne b _ z)];exact z⟩⟩
   have J6:Inv X pins σ (upd H5 s₂.heap.objs.size (.lst ys)) s6:=I2.call' I6.os un6 hk6 I6.bare fun b hb=>⟨(f2 b hb).2.2.2.1,(f2 b hb).2.1,(f2 b hb).2.2.2.2.1,(f2 b hb).2.2.2.2.2⟩
   refine hR _ _ s6 H5 ys m6 J6 hn6 ⟨?_,?_,?_,?_,?_,?_⟩ hn5 fin
   ·rw [bG (Ne.symm hDC)];exact I6.free
   ·exact Ne.symm (neC _ I2.lt)
   ·exact I2.nofs hCle
   ·exact .inr (Nat.le_trans I2.sz hCle)
   ·intro x c e z
    obtain ⟨v,q⟩:=I2.cell x c e
    exact absurd (Nat.lt_of_lt_of_le q.lt (by rw [z];exact hCle)) (Nat.lt_irrefl _)
   ·intro p hp z
    exact absurd (Nat.lt_of_lt_of_le (Heap.lt_size (I2.pin p hp).1) (by rw [z];exact hCle)) (Nat.lt_irrefl _)
  ·refine thn (T.item (X.comp scope (cN X own fr) cl' G.objs.size fp s₂ H₂) rfl rfl rfl hc i _ s5 σ5 H5 (fun _ _=>False) pinD (stat fr5) st5 go) fun r s6 ⟨u,hr,h6⟩=>?_
   subst hr
   refine thn h6 fun _ s7 ⟨x,H7,I7,r7,y7,st7,fr7⟩=>?_
   have I7':=I7.pinned (stat fr7) (T.obj _ _ st7)
   refine thn (hg _ _ _ s7 σ5 H7 x u _ I7' r7 (step x H7 y7)) fun _ s8 ⟨σ8,H8,I8,q8⟩=>?_
   refine thn (ht _ _ _ s8 σ8 H8 _ I8 q8) fun ok s9 ⟨H9,I9,q9⟩=>?_
   have kept:∀ {s':Shared} {σ':St} {H':Hp},Inv (X.comp scope (cN X own fr) cl' G.objs.size fp s₂ H₂) ([(s₂.heap.objs.size,{ cls:=.type "list",data:=.seq its.toArray k })]++sS fp s7.heap) σ' H' s' ->
     tn (i+1) s'.heap∧(∀ b∈fp,H' b=none)∧s'.heap.get? s₂.heap.objs.size=some { cls:=.type "list",data:=.seq its.toArray k }∧H' s₂.heap.objs.size=none:=fun {s' σ' H'} Z=>by
    have zD:=Z.pin (s₂.heap.objs.size,{ cls:=.type "list",data:=.seq its.toArray k }) (List.mem_append_right _ (List.mem_append_left _ List.mem_cons_self))
    refine ⟨T.keep _ _ _ st7 fun b hb o e=>(Z.pin (b,o) (List.mem_append_right _ (List.mem_append_right _ (kO hb e)))).1,fun b hb=>?_,zD.1,zD.2.1⟩
    obtain ⟨o,e,_⟩:=T.obj _ _ st7 b hb
    exact (Z.pin (b,o) (List.mem_append_right _ (List.mem_append_right _ (kO hb e)))).2.1
   cases ok with
   | false=>
    obtain ⟨m',hm',w9⟩:=q9
    obtain ⟨z1,z2,z3,z4⟩:=kept I9
    exact ⟨m',hm',i+1,ys,its,k,σ8,H9,I9.pins_of (fun p hp=>nomatch hp),z1,z2,z3,rv5,z4,hz5,w9⟩
   | true=>
    refine thn (he _ _ _ s9 σ8 H9 _ I9 q9) fun v sa ⟨y,Ha,Ia,ra,m',hm',wa⟩=>?_
    obtain ⟨z1,z2,z3,z4⟩:=kept Ia
    refine append_at (hsz:=by show its.toArray.size<=sizeLine;rw [List.size_toArray,← rv5.length];exact hz5) z3 fun hb sbb hDb=>?_
    have Ib:Inv (X.comp scope (cN X own fr) cl' G.objs.size fp s₂ H₂) [] σ8 Ha { sa with heap:=hb }:=
     (Ia.pins_of (pins':=[]) fun p hp=>nomatch hp).turned (t':=sa.toks) (it:=s₂.heap.objs.size) (fun b o hne e=>(sbb.2 b hne).trans e) z4 hDC (.inr (Nat.le_refl _)) cellNe fun p hp=>nomatch hp
    refine ⟨m',hm',i+1,ys++[y],its++[v],k+1,σ8,Ha,Ib,T.keep _ _ _ z1 fun b hb' o e=>(sbb.2 b fun q=>nD (by rw [← q];exact hb')).trans e,z2,?_,rv5.append (.cons ra .nil),z4,by rw [List.length_append];exact hzl,wa⟩
    rw [← List.push_toArray];exact hDb
 exact codeAny_compStart_list loop (T.self _ 0 _ _ _ (T.keep _ _ _ st2 fun b _ o e=>old b o e) loop)
end
end L2
namespace L2
open PySem PySem.Spec PyProof.Rows
def JG (J:It) (own:List Str) (fr:List Nat) (σ : St) (g:TG) (tt:TT) (te:TE) (Q:VK) (H1:Hp):Prop:=∃ W:Nat->Nat->List V->St->Hp->Prop,
 (∃ m,W 0 m [] (iY own fr σ) H1) ∧ ∀ i m ys σ' H',W i m ys σ' H'->(J.stop i H' ∧ ∀ p,H' p=none->Q (.ref p) (upd H' p (.lst ys))) ∨
  (J.go i H'∧ys.length<sizeLine ∧ ∀ x H3,J.yld i H' x H3->g x σ' H3 fun σ4 H4=>tt σ4 H4 fun b H5=>
   if b=true then te σ4 H5 fun y H6=>∃ m',m'<m∧W (i+1) m' (ys++[y]) σ4 H6 else ∃ m',m'<m∧W (i+1) m' ys σ4 H5)
def GX (wi:TI) (own:List Str) (fr:List Nat) (g:TG) (tt:TT) (te:TE):TE:=fun σ H Q=>wi σ H fun J H1=>JG J own fr σ g tt te Q H1
section
variable {X:Cx} {scope:Scope} {own:List Str} {fr:List Nat} {tg elt iter:Expr} {ifs:List Expr} {pos:Pos} {wi:TI} {g:TG} {tt:TT} {te:TE}
theorem Iu (hc:X.calm=true) (hi:PI X tg iter wi) (S:CScope X scope own fr) (hg:∀ cl C fp s₂ H₂,PG (X.comp scope (cN X own fr) cl C fp s₂ H₂) tg g)
  (ht:∀ cl C fp s₂ H₂,PTs (X.comp scope (cN X own fr) cl C fp s₂ H₂) ifs tt) (he:∀ cl C fp s₂ H₂,PE (X.comp scope (cN X own fr) cl C fp s₂ H₂) elt te)
  (hs:∀ x,foldedSetIterable iter X.env x=pure x:=by intro _;rfl):PE X (.ListComp elt [⟨tg,iter,ifs,0⟩] scope pos) (GX wi own fr g tt te):=by
 intro pins s σ H Q I h
 obtain ⟨cl,hcl,h1,h2⟩:=lY (scope:=scope) (env:=X.env) fun n hn=>I.ok.has n (S.free n hn)
 rw [eval_ListComp]
 refine wpAny_comprehension_free (use:=none) rfl hs hcl S.kind S.names (thn (hi pins s σ H _ I h) fun v s1 q1=>thn q1 fun itv s2 q2=>?_)
 obtain ⟨it,fp,tn,J,H2,e,I2,T,st2,f2,W,⟨m0,w0⟩,turn⟩:=q2
 subst e
 refine ur (RR:=fun acc C=>compPost (model X.prog X.w) X.A X.xe none (EP X pins σ Q) acc C) (Fin:=fun ys H'=>∀ p,H' p=none->Q (.ref p) (upd H' p (.lst ys)))
  I2 hc S h1 h2 T st2 f2 (fun cl C=>hg cl C fp s2 H2) (fun cl C=>ht cl C fp s2 H2) (fun cl C=>he cl C fp s2 H2) W m0 w0 turn ?_
 intro D C s' H' ys m J' hn fC hD fin
 exact ⟨m,hn,fun h' sb=>⟨.ref D,_,J'.turned (t':=s'.toks) (it:=C) (fun b o hne e=>(sb.2 b hne).trans e) fC.1 fC.2.1 fC.2.2.2.1 fC.2.2.2.2.1 fC.2.2.2.2.2,rfl,fin D hD⟩⟩
theorem IW {i:Nat} {y:Str} {py spos:Pos} (hN:X.N.Nodup) (hi:X.N[i]? = some y) (hx:Loc X.env.scope y) (hc:X.calm=true) (hit:PI X tg iter wi) (S:CScope X scope own fr)
  (hg:∀ cl C fp s₂ H₂,PG (X.comp scope (cN X own fr) cl C fp s₂ H₂) tg g) (ht:∀ cl C fp s₂ H₂,PTs (X.comp scope (cN X own fr) cl C fp s₂ H₂) ifs tt) (he:∀ cl C fp s₂ H₂,PE (X.comp scope (cN X own fr) cl C fp s₂ H₂) elt te)
  (hsw:swapsWith (.ListComp elt [⟨tg,iter,ifs,0⟩] scope pos) (some (.Name y py)) spos.line X.env=pure true:=by rfl)
  (hs:∀ x,foldedSetIterable iter X.env x=pure x:=by intro _;rfl) (hf:X.fn y=true∨X.env.scope.names.lookup y=some .local:=by first | exact .inl rfl | exact .inr rfl | assumption) :
  PS X (.Assign [.Name y py] (.ListComp elt [⟨tg,iter,ifs,0⟩] scope pos) spos) (Np (GX wi own fr g tt te) (Eu i)):=by
 intro pins s σ H D I h
 obtain ⟨cl,hcl,h1,h2⟩:=lY (scope:=scope) (env:=X.env) fun n hn=>I.ok.has n (S.free n hn)
 rw [exec_Assign_Name_used _ _ _ _ hsw]
 refine wpAny_bind (wpAny_standAt (wpAny_bind ?_))
 show wpAny _ X.A (do let _ ← comprehension (.ListComp elt [⟨tg,iter,ifs,0⟩] scope pos) scope X.env _ (newList []) false (eval iter X.env) (some (assign (.Name y py) X.env))) _ _ s
 refine wpAny_bind (wpAny_mono (wpAny_comprehension_free (use:=some (assign (.Name y py) X.env)) (Q:=fun _ s'=>SP X pins D .next s') rfl hs hcl S.kind S.names
  (thn (hit pins s σ H _ I h) fun v s1 q1=>thn q1 fun itv s2 q2=>?_)) (fun _ s' q=>wpAny_pure (wpAny_pure q)) fun _ _ z=>z)
 obtain ⟨it,fp,tn,J,H2,e,I2,T,st2,f2,W,⟨m0,w0⟩,turn⟩:=q2
 subst e
 refine ur (RR:=fun acc C=>compPost (model X.prog X.w) X.A X.xe (some (assign (.Name y py) X.env)) (fun _ s'=>SP X pins D .next s') acc C)
  (Fin:=fun ys H'=>∀ p,H' p=none->D.nx (σ.set i (some (.ref p))) (upd H' p (.lst ys)))
  I2 hc S h1 h2 T st2 f2 (fun cl C=>hg cl C fp s2 H2) (fun cl C=>ht cl C fp s2 H2) (fun cl C=>he cl C fp s2 H2) W m0 w0 turn ?_
 intro B C s' H' ys m J' hn fC hB fin
 refine wpAny_assign_Name (uK (v:=.ref B) J' hN hi hx rfl (fun s'' I'' sb=>?_) hf)
 obtain ⟨a,sba,ha⟩:=sb
 have nca:C≠a:=by
  rcases ha with z | z
  ·rw [z];exact fC.2.1
  ·exact Ne.symm (fC.2.2.2.2.1 _ a z)
 exact ⟨m,hn.sameBut sba nca,fun h' sb'=>⟨_,_,I''.turned (t':=s''.toks) (it:=C) (fun b o hne e=>(sb'.2 b hne).trans e) fC.1 fC.2.1 fC.2.2.2.1 fC.2.2.2.2.1 fC.2.2.2.2.2,fin B hB⟩⟩
end
section
variable {own:List Str} {fr:List Nat} {g:TG} {te:TE} {σ : St} {Q:VK}
end
section
variable {X:Cx} (K:PySem.W.Frag) (e:X.K=K)
include e
end
def Known (K:PySem.W.Frag) (mg:Str->Option Value) (x:Str) (st:Stmt) (ps:List Str):Prop:=∃ f fd,Fun K x x st f fd∧Binds K fd ps []∧mg x=some (.ref f)
def Prm (P:Program) (w:World) (K:PySem.W.Frag) (mg:Str->Option Value) (base:Heap) (x:Str) (k:Nat) (ps:List Str) (sp:Sp):Prop:=
 ∃ f fd,FnOk P w K mg base CX0 k f fd ps sp∧Binds K fd ps []∧mg x=some (.ref f)∧PySem.W.keepIn K (.ref f)=true
section
variable {P:Program} {w:World} {K:PySem.W.Frag} {mg:Str->Option Value} {base:Heap}
theorem Known.ok {x:Str} {st:Stmt} {ps N:List Str} {k:Nat} {sp:Sp} (h:Known K mg x st ps) (S:FnScope N ps (aC st)) (len:∀ vs H Q E,sp vs H Q E->vs.length=ps.length)
  (hbody:∀ (cdv:Value) (f:Addr) (A:Around) (outer:List Env) (s:Shared) (H:Hp) (vs:List V) (Q:VK) (E:XK),Room k (A.deeper (envOfC x (aC st) s.heap.objs.size f cdv))->sp vs H Q E ->
   ∃ t,PSs (qp CX0 P w K mg base N x (aC st) f cdv A outer s H E).nox (fL st) t∧t { nx:=fun _ H'=>Q .non H',rt:=Q } (start N vs) H):Prm P w K mg base x (k+1) ps sp:=by
 obtain ⟨f,fd,F,b,g⟩:=h
 exact ⟨f,fd,F.ok S len fun cdv A outer s H vs Q E hr hs=>hbody cdv f A outer s H vs Q E hr hs,b,g,F.kp⟩
theorem bx {x:Str} {st:Stmt} {ps:List Str} {h:Heap} (X:K.In h) (G:h.Ns mainGlobals mg) {f:Addr} {oc:Value} {od an:Option Addr} {osl:Array (Option Value)} {kV doc pm cdv ct:Value}
  (a:PySem.W.nsIn K mainGlobals x=some (some (.ref f))) (l:K.lookup f=some ⟨oc,od,.func (PySem.W.fnOf x x (iQ st) (fL st) (aC st) .none kV doc pm an cdv ct),osl⟩)
  (c:PySem.W.codeIn K cdv x=true) (k:PySem.W.keepIn K (.ref f)=true)
  (hb:∀ (kV doc pm:Value) (an:Option Addr) (cdv ct:Value) (us:List Value),us.length=ps.length->bindArgs (PySem.W.fnOf x x (iQ st) (fL st) (aC st) .none kV doc pm an cdv ct) ⟨us,[]⟩=pure (ps.zip us)):Known K mg x st ps:=
 ⟨f,_,yQ l c k,(yQ l c k).binds hb,PySem.W.mg_of X G a⟩
theorem Prm.mono {x:Str} {j k:Nat} {ps:List Str} {sp:Sp} (h:Prm P w K mg base x j ps sp) (hk:j<=k):Prm P w K mg base x k ps sp:=by
 obtain ⟨f,fd,F,r⟩:=h
 exact ⟨f,fd,F.mono hk,r⟩
end
theorem qm.upd {H:Hp} {a:Addr} {o:HO} (h:H a=none):qm H (upd H a o):=fun b u e=>by
 rw [bG (bQ e h)];exact e
end L2
namespace L2
open PySem PySem.Spec PyProof.Rows
section
variable {X:Cx} {pins:List (Addr×Obj)} {σ : St} {H:Hp} {s:Shared}
end
end L2
namespace L2
open PySem PySem.Spec PyProof.Rows
inductive D where
 | non | bl (b:Bool) | int (i:Int) | str (x:Str) | tup (ds:List D) | lst (o:Bool) (ds:List D)
 | scr (ns:List Int)
 | ty (n:String)
 | xc (x:Str) (a:Addr)
 | fn (x:Str)
 | dct (o:Bool) (ks:List Key) (ds:List D)
mutual
def D.fz:D->D
 | .non=>.non
 | .bl b=>.bl b
 | .int i=>.int i
 | .str x=>.str x
 | .scr ns=>.scr ns
 | .ty n=>.ty n
 | .xc x a=>.xc x a
 | .fn x=>.fn x
 | .tup ds=>.tup (D.fzs ds)
 | .lst _ ds=>.lst false (D.fzs ds)
 | .dct _ ks ds=>.dct false ks (D.fzs ds)
def D.fzs:List D->List D
 | []=>[]
 | d :: ds=>d.fz :: D.fzs ds
end
mutual
def D.clean:D->Bool
 | .non=>true
 | .bl _=>true
 | .int _=>true
 | .str _=>true
 | .scr _=>true
 | .ty _=>true
 | .xc _ _=>true
 | .fn _=>true
 | .tup ds=>D.cleans ds
 | .lst o ds=>o&&D.cleans ds
 | .dct o _ ds=>o&&D.cleans ds
def D.cleans:List D->Bool
 | []=>true
 | d :: ds=>d.clean&&D.cleans ds
end
mutual
def D.dat:D->PyData
 | .non=>.none
 | .bl b=>.bool b
 | .int i=>.int i
 | .str x=>.str x
 | .scr ns=>.list (ns.map PyData.int)
 | .ty _=>.dict []
 | .xc _ _=>.dict []
 | .fn _=>.dict []
 | .tup ds=>.tuple (D.dats ds)
 | .lst _ ds=>.list (D.dats ds)
 | .dct _ _ _=>.dict []
def D.dats:List D->List PyData
 | []=>[]
 | d :: ds=>d.dat :: D.dats ds
end
theorem D.fzs_eq:∀ ds:List D,D.fzs ds=ds.map D.fz
 | []=>by simp [D.fzs]
 | d :: ds=>by simp [D.fzs,D.fzs_eq ds]
theorem D.cleans_eq:∀ ds:List D,D.cleans ds=ds.all D.clean
 | []=>by simp [D.cleans]
 | d :: ds=>by simp [D.cleans,D.cleans_eq ds]
mutual
def D.sh:D->Bool
 | .non=>true
 | .bl _=>true
 | .int _=>true
 | .str _=>true
 | .scr _=>true
 | .ty _=>true
 | .xc _ _=>true
 | .fn _=>true
 | .tup ds=>D.shs ds
 | .lst o ds=>!o&&D.shs ds
 | .dct o _ ds=>!o&&D.shs ds
def D.shs:List D->Bool
 | []=>true
 | d :: ds=>d.sh&&D.shs ds
end
theorem D.shs_eq:∀ ds:List D,D.shs ds=ds.all D.sh
 | []=>by simp [D.shs]
 | d :: ds=>by simp [D.shs,D.shs_eq ds]
mutual
theorem D.sh_fz:∀ d:D,d.sh=true->d.fz=d
 | .non,_=>by rw [D.fz]
 | .bl _,_=>by rw [D.fz]
 | .int _,_=>by rw [D.fz]
 | .str _,_=>by rw [D.fz]
 | .scr _,_=>by rw [D.fz]
 | .ty _,_=>by rw [D.fz]
 | .xc _ _,_=>by rw [D.fz]
 | .fn _,_=>by rw [D.fz]
 | .tup ds,h=>by rw [D.fz,D.shs_fz ds (by rw [D.sh] at h;exact h)]
 | .lst o ds,h=>by
  rw [D.sh,Bool.and_eq_true] at h
  rw [D.fz,D.shs_fz ds h.2]
  cases o with
  | false=>rfl
  | true=>cases h.1
 | .dct o ks ds,h=>by
  rw [D.sh,Bool.and_eq_true] at h
  rw [D.fz,D.shs_fz ds h.2]
  cases o with
  | false=>rfl
  | true=>cases h.1
theorem D.shs_fz:∀ ds:List D,D.shs ds=true->D.fzs ds=ds
 | [],_=>by rw [D.fzs]
 | d :: ds,h=>by
  rw [D.shs,Bool.and_eq_true] at h
  rw [D.fzs,D.sh_fz d h.1,D.shs_fz ds h.2]
end
mutual
theorem D.fz_sh:∀ d:D,d.fz.sh=true
 | .non=>by simp [D.fz,D.sh]
 | .bl _=>by simp [D.fz,D.sh]
 | .int _=>by simp [D.fz,D.sh]
 | .str _=>by simp [D.fz,D.sh]
 | .scr _=>by simp [D.fz,D.sh]
 | .ty _=>by simp [D.fz,D.sh]
 | .xc _ _=>by simp [D.fz,D.sh]
 | .fn _=>by simp [D.fz,D.sh]
 | .tup ds=>by simp [D.fz,D.sh,D.fzs_sh ds]
 | .lst _ ds=>by simp [D.fz,D.sh,D.fzs_sh ds]
 | .dct _ ks ds=>by simp [D.fz,D.sh,D.fzs_sh ds]
theorem D.fzs_sh:∀ ds:List D,D.shs (D.fzs ds)=true
 | []=>by simp [D.fzs,D.shs]
 | d :: ds=>by simp [D.fzs,D.shs,D.fz_sh d,D.fzs_sh ds]
end
mutual
theorem D.fz_fz:∀ d:D,d.fz.fz=d.fz
 | .non=>by simp [D.fz]
 | .bl _=>by simp [D.fz]
 | .int _=>by simp [D.fz]
 | .str _=>by simp [D.fz]
 | .scr _=>by simp [D.fz]
 | .ty _=>by simp [D.fz]
 | .xc _ _=>by simp [D.fz]
 | .fn _=>by simp [D.fz]
 | .tup ds=>by simp [D.fz,D.fzs_fzs ds]
 | .lst _ ds=>by simp [D.fz,D.fzs_fzs ds]
 | .dct _ ks ds=>by simp [D.fz,D.fzs_fzs ds]
theorem D.fzs_fzs:∀ ds:List D,D.fzs (D.fzs ds)=D.fzs ds
 | []=>by simp [D.fzs]
 | d :: ds=>by simp [D.fzs,D.fz_fz d,D.fzs_fzs ds]
end
mutual
theorem D.dat_fz:∀ d:D,d.fz.dat=d.dat
 | .non=>by simp [D.fz]
 | .bl _=>by simp [D.fz]
 | .int _=>by simp [D.fz]
 | .str _=>by simp [D.fz]
 | .scr _=>by simp [D.fz]
 | .ty _=>by simp [D.fz]
 | .xc _ _=>by simp [D.fz]
 | .fn _=>by simp [D.fz]
 | .tup ds=>by simp [D.fz,D.dat,D.dats_fzs ds]
 | .lst _ ds=>by simp [D.fz,D.dat,D.dats_fzs ds]
 | .dct _ ks ds=>by simp [D.fz,D.dat]
theorem D.dats_fzs:∀ ds:List D,D.dats (D.fzs ds)=D.dats ds
 | []=>by simp [D.fzs]
 | d :: ds=>by simp [D.fzs,D.dats,D.dat_fz d,D.dats_fzs ds]
end
def qZ (K:PySem.W.Frag) (H:Hp) (a:Addr) (ns:List Int):Prop:=
 (∃ o,H a=some (.frz o (.lst (ns.map V.int)))) ∨
  ∃ (o:Obj) (its:Array Value) (n:Nat),K.lookup a=some o∧o.cls = .type "list" ∧ o.dict=none∧o.data = .seq its n∧its.size<=sizeLine∧Vals (ns.map V.int) its.toList
def QG (C:Addr) (o:Obj):Prop:=o.cls = .ref C ∧ ∃ vs:Array Value,o.data = .fields vs∧vs[2]? = some .none
theorem qZ.sq {K:PySem.W.Frag} {H:Hp} {a:Addr} {ns:List Int} (h:qZ K H a ns):SqL K H a (ns.map V.int):=by
 rcases h with ⟨o,e⟩ | h
 ·exact .inl (.inr ⟨o,e⟩)
 ·exact .inr h
section
variable (K:PySem.W.Frag) (F:Addr->Prop) (H:Hp)
mutual
inductive Rp:V->D->List Addr->Prop where
 | non:Rp .non .non []
 | bl (b:Bool):Rp (.bl b) (.bl b) []
 | int (i:Int):Rp (.int i) (.int i) []
 | str (x:Str):Rp (.str x) (.str x) []
 | ty (n:String):Rp (.ty n) (.ty n) []
 | xc {a C:Addr} {x:Str} {o:Obj} {u:HO}:PySem.W.nsIn K mainGlobals x=some (some (.ref C))->H a=some (.frz o u)->QG C o->Rp (.ref a) (.xc x a) []
 | fn {a:Addr} {x:Str}:PySem.W.nsIn K mainGlobals x=some (some (.ref a))->Rp (.ref a) (.fn x) []
 | tup {a:Addr} {vs:List V} {ds:List D} {L:List Addr}:H a=some (.tup vs)->Rps vs ds L->Rp (.ref a) (.tup ds) L
 | scr {a:Addr} {ns:List Int}:qZ K H a ns->Rp (.ref a) (.scr ns) []
 | frz {a:Addr} {vs:List V} {ds:List D}:H a=some (.lst vs)->F a->Rps vs ds []->Rp (.ref a) (.lst false ds) []
 | own {a:Addr} {vs:List V} {ds:List D} {L:List Addr}:H a=some (.lst vs)->Rps vs ds L->Rp (.ref a) (.lst true ds) (a :: L)
 | dfz {a:Addr} {kvs:List (Key×V)} {ds:List D}:H a=some (.dK kvs)->F a->Rps (kvs.map (·.2)) ds []->Rp (.ref a) (.dct false (kvs.map (·.1)) ds) []
 | down {a:Addr} {kvs:List (Key×V)} {ds:List D} {L:List Addr}:H a=some (.dK kvs)->Rps (kvs.map (·.2)) ds L->Rp (.ref a) (.dct true (kvs.map (·.1)) ds) (a :: L)
inductive Rps:List V->List D->List Addr->Prop where
 | nil:Rps [] [] []
 | cons {v:V} {vs:List V} {d:D} {ds:List D} {L M:List Addr}:Rp v d L->Rps vs ds M->Rps (v :: vs) (d :: ds) (L++M)
end
end
section
variable {K:PySem.W.Frag} {F F':Addr->Prop} {H H':Hp}
theorem Rd.keep {a:Addr} {u:HO} (r:Rd H a u) (k:∀ o,H a=some o->H' a=some o):Rd H' a u:=by
 rcases r with r | ⟨o,r⟩
 ·exact .inl (k _ r)
 ·exact .inr ⟨o,k _ r⟩
inductive OL where
 | l (xs:List V) | d (kvs:List (Key×V))
def OL.ho:OL->HO
 | .l xs=>.lst xs
 | .d kvs=>.dK kvs
def Still:HO->Prop
 | .lst _=>False
 | .dK _=>False
 | .dT _=>False
 | .set _ _=>False
 | .ins _ _ _=>False
 | .ext _=>False
 | _=>True
theorem OL.no {o:OL}:¬ Still o.ho:=by cases o <;> exact id
theorem SqT.keep {a:Addr} {vs:List V} (r:SqT K H a vs) (k:∀ o,H a=some o->Still o->H' a=some o):SqT K H' a vs:=by
 rcases r with r | r
 ·refine .inl ?_
  rcases r with r | ⟨o,r⟩
  ·exact .inl (k _ r trivial)
  ·exact .inr ⟨o,k _ r trivial⟩
 ·exact .inr r
theorem qZ.keep {a:Addr} {ns:List Int} (r:qZ K H a ns) (k:∀ o,H a=some o->Still o->H' a=some o):qZ K H' a ns:=by
 rcases r with ⟨o,r⟩ | r
 ·exact .inl ⟨o,k _ r trivial⟩
 ·exact .inr r
mutual
theorem Rp.mono (hF:∀ a,F a->F' a) (hT:∀ a o,H a=some o->Still o->H' a=some o) (hK:∀ a o,F a->H a=some o->H' a=some o) :
  ∀ {v:V} {d:D} {L:List Addr},Rp K F H v d L->(∀ a∈L,∀ o,H a=some o->H' a=some o)->Rp K F' H' v d L
 | _,_,_,.non,_=>.non
 | _,_,_,.bl b,_=>.bl b
 | _,_,_,.int i,_=>.int i
 | _,_,_,.str x,_=>.str x
 | _,_,_,.ty n,_=>.ty n
 | _,_,_,.xc n h c,_=>.xc n (hT _ _ h trivial) c
 | _,_,_,.fn n,_=>.fn n
 | _,_,_,.tup h r,k=>.tup (hT _ _ h trivial) (Rps.mono hF hT hK r k)
 | _,_,_,.scr h,_=>.scr (h.keep fun o e s=>hT _ o e s)
 | _,_,_,.frz h f r,k=>.frz (hK _ _ f h) (hF _ f) (Rps.mono hF hT hK r k)
 | _,_,_,.own h r,k=>.own (k _ List.mem_cons_self _ h) (Rps.mono hF hT hK r fun a ha=>k a (List.mem_cons_of_mem _ ha))
 | _,_,_,.dfz h f r,k=>.dfz (hK _ _ f h) (hF _ f) (Rps.mono hF hT hK r k)
 | _,_,_,.down h r,k=>.down (k _ List.mem_cons_self _ h) (Rps.mono hF hT hK r fun a ha=>k a (List.mem_cons_of_mem _ ha))
theorem Rps.mono (hF:∀ a,F a->F' a) (hT:∀ a o,H a=some o->Still o->H' a=some o) (hK:∀ a o,F a->H a=some o->H' a=some o) :
  ∀ {vs:List V} {ds:List D} {L:List Addr},Rps K F H vs ds L->(∀ a∈L,∀ o,H a=some o->H' a=some o)->Rps K F' H' vs ds L
 | _,_,_,.nil,_=>.nil
 | _,_,_,.cons r rs,k=>.cons (Rp.mono hF hT hK r fun a ha=>k a (List.mem_append_left _ ha)) (Rps.mono hF hT hK rs fun a ha=>k a (List.mem_append_right _ ha))
end
mutual
theorem Rp.own_lst:∀ {v:V} {d:D} {L:List Addr},Rp K F H v d L -> ∀ a∈L,∃ xs:OL,H a=some xs.ho
 | _,_,_,.non,a,h=>absurd h (by simp)
 | _,_,_,.bl b,a,h=>absurd h (by simp)
 | _,_,_,.int i,a,h=>absurd h (by simp)
 | _,_,_,.str x,a,h=>absurd h (by simp)
 | _,_,_,.tup _ r,a,h=>Rps.own_lst r a h
 | _,_,_,.frz _ _ _,a,h=>absurd h (by simp)
 | _,_,_,.scr _,a,h=>absurd h (by simp)
 | _,_,_,.ty _,a,h=>absurd h (by simp)
 | _,_,_,.xc _ _ _,a,h=>absurd h (by simp)
 | _,_,_,.fn _,a,h=>absurd h (by simp)
 | _,_,_,.own e r,a,h=>by
  rcases List.mem_cons.mp h with z | z
  ·rw [z];exact ⟨.l _,e⟩
  ·exact Rps.own_lst r a z
 | _,_,_,.dfz _ _ _,a,h=>absurd h (by simp)
 | _,_,_,.down e r,a,h=>by
  rcases List.mem_cons.mp h with z | z
  ·rw [z];exact ⟨.d _,e⟩
  ·exact Rps.own_lst r a z
theorem Rps.own_lst:∀ {vs:List V} {ds:List D} {L:List Addr},Rps K F H vs ds L -> ∀ a∈L,∃ xs:OL,H a=some xs.ho
 | _,_,_,.nil,a,h=>absurd h (by simp)
 | _,_,_,.cons r rs,a,h=>by
  rcases List.mem_append.mp h with z | z
  ·exact Rp.own_lst r a z
  ·exact Rps.own_lst rs a z
end
mutual
theorem Rp.freeze:∀ {v:V} {d:D} {L:List Addr},Rp K F H v d L->(∀ a,F a->F' a)->(∀ a∈L,F' a)->Rp K F' H v d.fz []
 | _,_,_,.non,_,_=>by rw [D.fz];exact .non
 | _,_,_,.bl b,_,_=>by rw [D.fz];exact .bl b
 | _,_,_,.int i,_,_=>by rw [D.fz];exact .int i
 | _,_,_,.str x,_,_=>by rw [D.fz];exact .str x
 | _,_,_,.tup h r,f,k=>by rw [D.fz];exact .tup h (Rps.freeze r f k)
 | _,_,_,.scr h,_,_=>by rw [D.fz];exact .scr h
 | _,_,_,.ty n,_,_=>by rw [D.fz];exact .ty n
 | _,_,_,.xc n h c,_,_=>by rw [D.fz];exact .xc n h c
 | _,_,_,.fn n,_,_=>by rw [D.fz];exact .fn n
 | _,_,_,.frz h z r,f,k=>by rw [D.fz];exact .frz h (f _ z) (Rps.freeze r f k)
 | _,_,_,.own h r,f,k=>by rw [D.fz];exact .frz h (k _ List.mem_cons_self) (Rps.freeze r f fun a ha=>k a (List.mem_cons_of_mem _ ha))
 | _,_,_,.dfz h z r,f,k=>by rw [D.fz];exact .dfz h (f _ z) (Rps.freeze r f k)
 | _,_,_,.down h r,f,k=>by rw [D.fz];exact .dfz h (k _ List.mem_cons_self) (Rps.freeze r f fun a ha=>k a (List.mem_cons_of_mem _ ha))
theorem Rps.freeze:∀ {vs:List V} {ds:List D} {L:List Addr},Rps K F H vs ds L->(∀ a,F a->F' a)->(∀ a∈L,F' a)->Rps K F' H vs (D.fzs ds) []
 | _,_,_,.nil,_,_=>by rw [D.fzs];exact .nil
 | _,_,_,.cons (L:=L) (M:=M) r rs,f,k=>by
  rw [D.fzs]
  exact .cons (L:=[]) (M:=[]) (Rp.freeze r f fun a ha=>k a (List.mem_append_left _ ha)) (Rps.freeze rs f fun a ha=>k a (List.mem_append_right _ ha))
end
mutual
theorem Rp.fz_nil:∀ {v:V} {d:D} {L:List Addr},Rp K F H v d L->d.fz=d->L=[]
 | _,_,_,.non,_=>rfl
 | _,_,_,.bl b,_=>rfl
 | _,_,_,.int i,_=>rfl
 | _,_,_,.str x,_=>rfl
 | _,_,_,.tup h r,e=>Rps.fz_nil r (by rw [D.fz] at e;injection e)
 | _,_,_,.frz _ _ _,_=>rfl
 | _,_,_,.scr _,_=>rfl
 | _,_,_,.ty _,_=>rfl
 | _,_,_,.xc _ _ _,_=>rfl
 | _,_,_,.fn _,_=>rfl
 | _,_,_,.own h r,e=>by rw [D.fz] at e;injection e with e1 _;cases e1
 | _,_,_,.dfz _ _ _,_=>rfl
 | _,_,_,.down h r,e=>by rw [D.fz] at e;injection e with e1 _ _;cases e1
theorem Rps.fz_nil:∀ {vs:List V} {ds:List D} {L:List Addr},Rps K F H vs ds L->D.fzs ds=ds->L=[]
 | _,_,_,.nil,_=>rfl
 | _,_,_,.cons r rs,e=>by
  rw [D.fzs] at e
  injection e with e1 e2
  rw [Rp.fz_nil r e1,Rps.fz_nil rs e2];rfl
end
mutual
theorem Rp.nil_fz:∀ {v:V} {d:D} {L:List Addr},Rp K F H v d L->L=[]->d.fz=d
 | _,_,_,.non,_=>by rw [D.fz]
 | _,_,_,.bl b,_=>by rw [D.fz]
 | _,_,_,.int i,_=>by rw [D.fz]
 | _,_,_,.str x,_=>by rw [D.fz]
 | _,_,_,.tup h r,e=>by rw [D.fz,Rps.nil_fz r e]
 | _,_,_,.frz _ _ r,_=>by rw [D.fz,Rps.nil_fz r rfl]
 | _,_,_,.scr _,_=>by rw [D.fz]
 | _,_,_,.ty _,_=>by rw [D.fz]
 | _,_,_,.xc _ _ _,_=>by rw [D.fz]
 | _,_,_,.fn _,_=>by rw [D.fz]
 | _,_,_,.own h r,e=>by cases e
 | _,_,_,.dfz _ _ r,_=>by rw [D.fz,Rps.nil_fz r rfl]
 | _,_,_,.down h r,e=>by cases e
theorem Rps.nil_fz:∀ {vs:List V} {ds:List D} {L:List Addr},Rps K F H vs ds L->L=[]->D.fzs ds=ds
 | _,_,_,.nil,_=>by rw [D.fzs]
 | _,_,_,.cons r rs,e=>by
  obtain ⟨e1,e2⟩:=List.append_eq_nil_iff.mp e
  rw [D.fzs,Rp.nil_fz r e1,Rps.nil_fz rs e2]
end
mutual
theorem Rp.clean:∀ {v:V} {d:D} {L:List Addr},Rp K F H v d L->d.clean=true->Rp K F' H v d L
 | _,_,_,.non,_=>.non
 | _,_,_,.bl b,_=>.bl b
 | _,_,_,.int i,_=>.int i
 | _,_,_,.str x,_=>.str x
 | _,_,_,.tup h r,e=>.tup h (Rps.clean r (by rw [D.clean] at e;exact e))
 | _,_,_,.frz _ _ _,e=>by rw [D.clean] at e;simp at e
 | _,_,_,.scr h,_=>.scr h
 | _,_,_,.ty n,_=>.ty n
 | _,_,_,.xc n h c,_=>.xc n h c
 | _,_,_,.fn n,_=>.fn n
 | _,_,_,.own h r,e=>.own h (Rps.clean r (by rw [D.clean] at e;simpa using e))
 | _,_,_,.dfz _ _ _,e=>by rw [D.clean] at e;simp at e
 | _,_,_,.down h r,e=>.down h (Rps.clean r (by rw [D.clean] at e;simpa using e))
theorem Rps.clean:∀ {vs:List V} {ds:List D} {L:List Addr},Rps K F H vs ds L->D.cleans ds=true->Rps K F' H vs ds L
 | _,_,_,.nil,_=>.nil
 | _,_,_,.cons r rs,e=>by
  rw [D.cleans,Bool.and_eq_true] at e
  exact .cons (Rp.clean r e.1) (Rps.clean rs e.2)
end
theorem zY:∀ ns:List Int,DpAll K H (ns.map V.int) (ns.map PyData.int)
 | []=>.nil
 | n :: ns=>.cons (.int n) (zY ns)
mutual
def D.pl:D->Bool
 | .ty _=>false
 | .xc _ _=>false
 | .fn _=>false
 | .dct _ _ _=>false
 | .tup ds=>D.pls ds
 | .lst _ ds=>D.pls ds
 | .non=>true
 | .bl _=>true
 | .int _=>true
 | .str _=>true
 | .scr _=>true
def D.pls:List D->Bool
 | []=>true
 | d :: ds=>d.pl&&D.pls ds
end
mutual
theorem Rp.dp:∀ {v:V} {d:D} {L:List Addr},Rp K F H v d L->d.pl=true->Dp K H v d.dat
 | _,_,_,.non,_=>by rw [D.dat];exact .non
 | _,_,_,.bl b,_=>by rw [D.dat];exact .bl b
 | _,_,_,.int i,_=>by rw [D.dat];exact .int i
 | _,_,_,.str x,_=>by rw [D.dat];exact .str x
 | _,_,_,.ty n,h=>by simp [D.pl] at h
 | _,_,_,.xc _ _ _,h=>by simp [D.pl] at h
 | _,_,_,.fn _,h=>by simp [D.pl] at h
 | _,_,_,.dfz _ _ _,h=>by simp [D.pl] at h
 | _,_,_,.down _ _,h=>by simp [D.pl] at h
 | _,_,_,.tup h r,e=>by rw [D.dat];exact .tup (.of h) (Rps.dp r (by rw [D.pl] at e;exact e))
 | _,_,_,.frz h _ r,e=>by rw [D.dat];exact .lst (.inl (.inl h)) (Rps.dp r (by rw [D.pl] at e;exact e))
 | _,_,_,.scr h,_=>by rw [D.dat];exact .lst h.sq (zY _)
 | _,_,_,.own h r,e=>by rw [D.dat];exact .lst (.inl (.inl h)) (Rps.dp r (by rw [D.pl] at e;exact e))
theorem Rps.dp:∀ {vs:List V} {ds:List D} {L:List Addr},Rps K F H vs ds L->D.pls ds=true->DpAll K H vs (D.dats ds)
 | _,_,_,.nil,_=>by rw [D.dats];exact .nil
 | _,_,_,.cons r rs,e=>by
  rw [D.pls,Bool.and_eq_true] at e
  rw [D.dats];exact .cons (Rp.dp r e.1) (Rps.dp rs e.2)
end
theorem Rp.sh_nil {v:V} {d:D} {L:List Addr} (r:Rp K F H v d L) (h:d.sh=true):L=[]:=r.fz_nil (d.sh_fz h)
theorem Rps.sh_nil {vs:List V} {ds:List D} {L:List Addr} (r:Rps K F H vs ds L) (h:D.shs ds=true):L=[]:=r.fz_nil (D.shs_fz ds h)
theorem Rps.length:∀ {vs:List V} {ds:List D} {L:List Addr},Rps K F H vs ds L->vs.length=ds.length
 | _,_,_,.nil=>rfl
 | _,_,_,.cons _ rs=>by rw [List.length_cons,List.length_cons,Rps.length rs]
theorem Rps.append:∀ {vs ws:List V} {ds es:List D} {L M:List Addr},Rps K F H vs ds L->Rps K F H ws es M->Rps K F H (vs++ws) (ds++es) (L++M)
 | _,_,_,_,_,_,.nil,s=>s
 | _,_,_,_,_,_,.cons r rs,s=>by rw [List.append_assoc];exact .cons r (Rps.append rs s)
theorem Rps.get:∀ {vs:List V} {ds:List D} {L:List Addr} {i:Nat} {d:D},Rps K F H vs ds L->ds[i]? = some d -> ∃ v M,vs[i]? = some v∧Rp K F H v d M∧M.Sublist L
 | _,_,_,i,d,.nil,e=>by simp at e
 | _,_,_,0,d,.cons (L:=L) (M:=M) r rs,e=>by
  simp at e;subst e
  exact ⟨_,L,rfl,r,List.sublist_append_left _ _⟩
 | _,_,_,i+1,d,.cons (L:=L) (M:=M) r rs,e=>by
  obtain ⟨v,M',h1,h2,h3⟩:=Rps.get (i:=i) rs (by simpa using e)
  exact ⟨v,M',by simpa using h1,h2,h3.trans (List.sublist_append_right _ _)⟩
end
mutual
theorem D.pl_of:∀ d:D,d.dat.canLay0=true->d.pl=true
 | .non,_=>by simp [D.pl]
 | .bl _,_=>by simp [D.pl]
 | .int _,_=>by simp [D.pl]
 | .str _,_=>by simp [D.pl]
 | .scr _,_=>by simp [D.pl]
 | .ty _,h=>by simp [D.dat,PyData.canLay0] at h
 | .xc _ _,h=>by simp [D.dat,PyData.canLay0] at h
 | .fn _,h=>by simp [D.dat,PyData.canLay0] at h
 | .dct _ _ _,h=>by simp [D.dat,PyData.canLay0] at h
 | .tup ds,h=>by rw [D.pl];exact D.pls_of ds (by rw [D.dat,PyData.canLay0] at h;exact h)
 | .lst _ ds,h=>by rw [D.pl];exact D.pls_of ds (by rw [D.dat,PyData.canLay0] at h;exact h)
theorem D.pls_of:∀ ds:List D,PyData.canLayAll0 (D.dats ds)=true->D.pls ds=true
 | [],_=>by simp [D.pls]
 | d :: ds,h=>by
  rw [D.dats,PyData.canLayAll0,Bool.and_eq_true] at h
  rw [D.pls,D.pl_of d h.1,D.pls_of ds h.2];rfl
end
end L2
namespace L2
open PySem PySem.Spec PyProof.Rows
abbrev En:=List (Option D)
structure WS (K:PySem.W.Frag) (F:Addr->Prop) (H:Hp) (σ : St) (ρ : En) (Ls:Nat->List Addr) (R:List Addr):Prop where
 len : ρ.length = σ.length
 sl:∀ (i:Nat) (d:D),ρ[i]? = some (some d) -> ∃ v,σ[i]? = some (some v)∧Rp K F H v d (Ls i)
 em:∀ i:Nat,(∀ d,ρ[i]? ≠ some (some d))->Ls i=[]
 nd:∀ i,(Ls i).Nodup
 dj:∀ i j a,a∈Ls i->a∈Ls j->i=j
 rd:R.Nodup
 rj:∀ i a,a∈Ls i->a ∉ R
 nf:∀ i a,a∈Ls i -> ¬ F a
 nr:∀ a∈R,¬ F a
 tr:∀ a∈R,∃ xs:OL,H a=some xs.ho
 ft:∀ a,F a->H a≠none
structure Step (F:Addr->Prop) (H:Hp) (Ls:Nat->List Addr) (F':Addr->Prop) (H':Hp) (Ls':Nat->List Addr) (Ld:List Addr):Prop where
 keep:∀ a o,H a=some o->(∀ i,a ∉ Ls i)->H' a=some o
 mono:∀ a,F a->F' a
 src:∀ i a,a∈Ls' i->(∃ j,a∈Ls j)∨H a=none
 srcD:∀ a∈Ld,(∃ j,a∈Ls j)∨H a=none
section
variable {K:PySem.W.Frag} {F F1 F2:Addr->Prop} {H H1 H2:Hp} {σ : St} {ρ ρ1:En} {Ls Ls1 Ls2:Nat->List Addr} {R Ld Ld1 Ld2:List Addr} {v:V} {d:D} {L:List Addr}
theorem WS.own (w:WS K F H σ ρ Ls R) {i:Nat} {a:Addr} (h:a∈Ls i):∃ xs:OL,H a=some xs.ho:=by
 by_cases e:∃ d,ρ[i]? = some (some d)
 ·obtain ⟨d,e⟩:=e
  obtain ⟨v,_,r⟩:=w.sl i d e
  exact r.own_lst a h
 ·rw [w.em i fun d z=>e ⟨d,z⟩] at h;simp at h
theorem Step.refl:Step F H Ls F H Ls []:=⟨fun _ _ e _=>e,fun _ h=>h,fun i a h=>.inl ⟨i,h⟩,fun a h=>absurd h (by simp)⟩
theorem Step.trans (s1:Step F H Ls F1 H1 Ls1 Ld1) (s2:Step F1 H1 Ls1 F2 H2 Ls2 Ld2):Step F H Ls F2 H2 Ls2 Ld2:=by
 have back:∀ a,((∃ j,a∈Ls1 j)∨H1 a=none)->(∃ j,a∈Ls j)∨H a=none:=fun a h=>by
  rcases h with ⟨j,h⟩ | h
  ·exact s1.src j a h
  ·by_cases e:∃ j,a∈Ls j
   ·exact .inl e
   ·cases q:H a with
    | none=>exact .inr rfl
    | some o=>rw [s1.keep a o q fun i z=>e ⟨i,z⟩] at h;cases h
 refine ⟨fun a o e n=>s2.keep a o (s1.keep a o e n) fun i z=>?_,fun a h=>s2.mono a (s1.mono a h),fun i a h=>back a (s2.src i a h),fun a h=>back a (s2.srcD a h)⟩
 rcases s1.src i a z with ⟨j,q⟩ | q
 ·exact n j q
 ·rw [e] at q;cases q
theorem Step.more (s1:Step F H Ls F1 H1 Ls1 Ld1) (h:∀ a∈Ld2,(∃ j,a∈Ls j)∨H a=none):Step F H Ls F1 H1 Ls1 Ld2:=⟨s1.keep,s1.mono,s1.src,h⟩
theorem Step.both (s1:Step F H Ls F1 H1 Ls1 Ld1) (s2:Step F1 H1 Ls1 F2 H2 Ls2 Ld2):Step F H Ls F2 H2 Ls2 (Ld1++Ld2):=
 (s1.trans s2).more fun a h=>by
  rcases List.mem_append.mp h with z | z
  ·exact s1.srcD a z
  ·exact (s1.trans s2).srcD a z
theorem Rp.step (w:WS K F H σ ρ Ls R) (s:Step F H Ls F1 H1 Ls1 Ld) (r:Rp K F H v d L) (h:∀ a∈L,a∈R):Rp K F1 H1 v d L:=by
 refine r.mono s.mono (fun a o e st=>s.keep a o e fun i z=>?_) (fun a o f e=>s.keep a o e fun i z=>w.nf i a z f) fun a ha o e=>s.keep a o e fun i z=>w.rj i a z (h a ha)
 obtain ⟨xs,q⟩:=w.own z
 rw [e] at q;cases q;exact absurd st OL.no
theorem Rps.step (w:WS K F H σ ρ Ls R) (s:Step F H Ls F1 H1 Ls1 Ld) {vs:List V} {ds:List D} (r:Rps K F H vs ds L) (h:∀ a∈L,a∈R):Rps K F1 H1 vs ds L:=by
 refine r.mono s.mono (fun a o e st=>s.keep a o e fun i z=>?_) (fun a o f e=>s.keep a o e fun i z=>w.nf i a z f) fun a ha o e=>s.keep a o e fun i z=>w.rj i a z (h a ha)
 obtain ⟨xs,q⟩:=w.own z
 rw [e] at q;cases q;exact absurd st OL.no
theorem Rp.laid {p:Addr} {o:HO} (hn:H p=none) (r:Rp K F H v d L):Rp K F (upd H p o) v d L:=
 r.mono (fun _ h=>h) (fun a u e _=>by rw [bG (bQ e hn)];exact e) (fun a u _ e=>by rw [bG (bQ e hn)];exact e) fun a _ u e=>by rw [bG (bQ e hn)];exact e
theorem Rps.laid {p:Addr} {o:HO} (hn:H p=none) {vs:List V} {ds:List D} (r:Rps K F H vs ds L):Rps K F (upd H p o) vs ds L:=
 r.mono (fun _ h=>h) (fun a u e _=>by rw [bG (bQ e hn)];exact e) (fun a u _ e=>by rw [bG (bQ e hn)];exact e) fun a _ u e=>by rw [bG (bQ e hn)];exact e
theorem WS.laid {p:Addr} {o:HO} (hn:H p=none) (w:WS K F H σ ρ Ls R):WS K F (upd H p o) σ ρ Ls R where
 len:=w.len
 sl:=fun i d e=>let ⟨v,h1,h2⟩:=w.sl i d e;⟨v,h1,h2.laid hn⟩
 em:=w.em
 nd:=w.nd
 dj:=w.dj
 rd:=w.rd
 rj:=w.rj
 nf:=w.nf
 nr:=w.nr
 tr:=fun a h=>let ⟨xs,e⟩:=w.tr a h;⟨xs,by rw [bG (bQ e hn)];exact e⟩
 ft:=fun a h=>by
  by_cases e:a=p
  ·rw [e,cD];simp
  ·rw [bG e];exact w.ft a h
theorem Step.laid {p:Addr} {o:HO} (hn:H p=none):Step F H Ls F (upd H p o) Ls []:=
 ⟨fun a u e _=>by rw [bG (bQ e hn)];exact e,fun _ h=>h,fun i a h=>.inl ⟨i,h⟩,fun a h=>absurd h (by simp)⟩
theorem WS.less {R':List Addr} (w:WS K F H σ ρ Ls R) (h:R'.Sublist R):WS K F H σ ρ Ls R':=
 { w with rd:=w.rd.sublist h,rj:=fun i a z q=>w.rj i a z (h.subset q),nr:=fun a z=>w.nr a (h.subset z),tr:=fun a z=>w.tr a (h.subset z) }
theorem WS.perm {R':List Addr} (w:WS K F H σ ρ Ls R) (h:R'.Perm R):WS K F H σ ρ Ls R':=
 { w with rd:=h.nodup_iff.mpr w.rd,rj:=fun i a z q=>w.rj i a z (h.mem_iff.mp q),nr:=fun a z=>w.nr a (h.mem_iff.mp z),tr:=fun a z=>w.tr a (h.mem_iff.mp z) }
theorem WS.give {M:List Addr} (w:WS K F H σ ρ Ls (M++R)):WS K (fun a=>F a∨a∈M) H σ ρ Ls R where
 len:=w.len
 sl:=fun i d e=>let ⟨v,h1,h2⟩:=w.sl i d e;⟨v,h1,h2.mono (fun _ h=>.inl h) (fun _ _ e _=>e) (fun _ _ _ e=>e) fun _ _ _ e=>e⟩
 em:=w.em
 nd:=w.nd
 dj:=w.dj
 rd:=(List.nodup_append.mp w.rd).2.1
 rj:=fun i a z q=>w.rj i a z (List.mem_append_right _ q)
 nf:=fun i a z q=>by
  rcases q with q | q
  ·exact w.nf i a z q
  ·exact w.rj i a z (List.mem_append_left _ q)
 nr:=fun a z q=>by
  rcases q with q | q
  ·exact w.nr a (List.mem_append_right _ z) q
  ·exact (List.nodup_append.mp w.rd).2.2 a q a z rfl
 tr:=fun a z=>w.tr a (List.mem_append_right _ z)
 ft:=fun a h=>by
  rcases h with h | h
  ·exact w.ft a h
  ·obtain ⟨xs,e⟩:=w.tr a (List.mem_append_left _ h)
   rw [e];simp
theorem Step.give {M:List Addr}:Step F H Ls (fun a=>F a∨a∈M) H Ls []:=⟨fun _ _ e _=>e,fun _ h=>.inl h,fun i a h=>.inl ⟨i,h⟩,fun a h=>absurd h (by simp)⟩
theorem WS.put {p:Addr} {xs:List V} (hn:H p=none) (w:WS K F H σ ρ Ls R):WS K F (upd H p (.lst xs)) σ ρ Ls (p :: R):=
 let w':=w.laid (o:=.lst xs) hn
 { w' with
   rd:=List.nodup_cons.mpr ⟨fun z=>(by obtain ⟨ys,e⟩:=w.tr p z;rw [hn] at e;cases e),w.rd⟩
   rj:=fun i a z q=>by
    rcases List.mem_cons.mp q with q | q
    ·subst q;obtain ⟨ys,e⟩:=w.own z;rw [hn] at e;cases e
    ·exact w.rj i a z q
   nr:=fun a z q=>by
    rcases List.mem_cons.mp z with z | z
    ·subst z;exact w.ft a q hn
    ·exact w.nr a z q
   tr:=fun a z=>by
    rcases List.mem_cons.mp z with z | z
    ·subst z;exact ⟨.l xs,cD⟩
    ·exact w'.tr a z }
end
abbrev bA:=En->(D->En->Prop)->Prop
def iI (K:PySem.W.Frag) (s:bA):TE:=fun σ H Q=>∃ F ρ Ls R Qd,WS K F H σ ρ Ls R∧s ρ Qd ∧
 ∀ v H' d ρ' F' Ls' Ld,Rp K F' H' v d Ld->WS K F' H' σ ρ' Ls' (Ld++R)->Step F H Ls F' H' Ls' Ld->Qd d ρ'->Q v H'
def SE (X:Cx) (e:Expr) (s:bA):Prop:=PE X e (iI X.K s)
theorem PE.wk {X:Cx} {e:Expr} {t t':TE} (h:PE X e t) (k:∀ σ H Q,t' σ H Q->t σ H Q):PE X e t':=fun pins s σ H Q I q=>h pins s σ H Q I (k σ H Q q)
theorem PT.wk {X:Cx} {e:Expr} {t t':TT} (h:PT X e t) (k:∀ σ H Q,t' σ H Q->t σ H Q):PT X e t':=fun pins s σ H Q I q=>h pins s σ H Q I (k σ H Q q)
theorem PW.wk {X:Cx} {e:Expr} {t t':TT} (h:PW X e t) (k:∀ σ H Q,t' σ H Q->t σ H Q):PW X e t':=fun wh pins s σ H Q I q=>h wh pins s σ H Q I (k σ H Q q)
theorem PA.wk {X:Cx} {e:List Expr} {t t':TA} (h:PA X e t) (k:∀ σ H Q,t' σ H Q->t σ H Q):PA X e t':=fun pos pins s σ H Q I q=>h pos pins s σ H Q I (k σ H Q q)
theorem PS.wk {X:Cx} {e:Stmt} {t t':TS} (h:PS X e t) (k:∀ D σ H,t' D σ H->t D σ H):PS X e t':=fun pins s σ H D I q=>h pins s σ H D I (k D σ H q)
theorem PSs.wk {X:Cx} {e:List Stmt} {t t':TS} (h:PSs X e t) (k:∀ D σ H,t' D σ H->t D σ H):PSs X e t':=fun pins s σ H D I q=>h pins s σ H D I (k D σ H q)
def D.flat:D->Option V
 | .non=>some .non
 | .bl b=>some (.bl b)
 | .int i=>some (.int i)
 | .str x=>some (.str x)
 | .ty n=>some (.ty n)
 | _=>none
theorem Rp.ofFlat {K:PySem.W.Frag} {F:Addr->Prop} {H:Hp}:∀ {d:D} {v:V},d.flat=some v->Rp K F H v d []
 | .non,_,e=>by cases e;exact .non
 | .bl b,_,e=>by cases e;exact .bl b
 | .int i,_,e=>by cases e;exact .int i
 | .str x,_,e=>by cases e;exact .str x
 | .tup _,_,e=>by cases e
 | .lst _ _,_,e=>by cases e
 | .scr _,_,e=>by cases e
 | .ty n,_,e=>by cases e;exact .ty n
 | .xc _ _,_,e=>by cases e
 | .fn _,_,e=>by cases e
 | .dct _ _ _,_,e=>by cases e
theorem Rp.isInt {K:PySem.W.Frag} {F:Addr->Prop} {H:Hp} {v:V} {i:Int} {L:List Addr} (r:Rp K F H v (.int i) L):v = .int i:=by cases r;rfl
theorem Rp.isBl {K:PySem.W.Frag} {F:Addr->Prop} {H:Hp} {v:V} {i:Bool} {L:List Addr} (r:Rp K F H v (.bl i) L):v = .bl i:=by cases r;rfl
theorem Rp.isStr {K:PySem.W.Frag} {F:Addr->Prop} {H:Hp} {v:V} {i:Str} {L:List Addr} (r:Rp K F H v (.str i) L):v = .str i:=by cases r;rfl
def sC (d:D):bA:=fun ρ Q=>Q d ρ
section
variable {X:Cx} {pos:Pos}
theorem jm {K:PySem.W.Frag} {d:D} {v:V} (e:d.flat=some v) {σ : St} {H:Hp} {Q:VK} (h:iI K (sC d) σ H Q):Q v H:=by
 obtain ⟨F,ρ,Ls,R,Qd,w,q,k⟩:=h
 exact k v H d ρ F Ls [] (.ofFlat e) w Step.refl q
theorem ak {i j pos}:SE X (.Constant (.int i) j pos) (sC (.int i)):=Gn.wk fun _ _ _ h=>jm rfl h
theorem cI {i j pos}:SE X (.Constant (.bool i) j pos) (sC (.bl i)):=JX.wk fun _ _ _ h=>jm rfl h
theorem pN {j pos}:SE X (.Constant .none j pos) (sC .non):=Mp.wk fun _ _ _ h=>jm rfl h
theorem zF {i j pos}:SE X (.Constant (.str i) j pos) (sC (.str i)):=Ms.wk fun _ _ _ h=>jm rfl h
end
def jo (Ls:Nat->List Addr) (i:Nat) (L:List Addr):Nat->List Addr:=fun j=>if j=i then L else Ls j
theorem aM {Ls:Nat->List Addr} {i:Nat} {L:List Addr}:jo Ls i L i=L:=if_pos rfl
theorem aX {Ls:Nat->List Addr} {i j:Nat} {L:List Addr} (h:j≠i):jo Ls i L j=Ls j:=if_neg h
def cu (i:Nat):bA:=fun ρ Q=>∃ d,ρ[i]? = some (some d)∧if d.sh=true then Q d ρ else Q d.fz (ρ.set i (some d.fz))
section
variable {K:PySem.W.Frag} {F:Addr->Prop} {H:Hp} {σ : St} {ρ : En} {Ls:Nat->List Addr} {R:List Addr}
theorem WS.share {i:Nat} {d:D} (w:WS K F H σ ρ Ls R) (e : ρ[i]? = some (some d)) :
  ∃ v,σ[i]? = some (some v)∧Rp K (fun a=>F a∨a∈Ls i) H v d.fz []∧WS K (fun a=>F a∨a∈Ls i) H σ (ρ.set i (some d.fz)) (jo Ls i []) R:=by
 obtain ⟨v,hv,r⟩:=w.sl i d e
 have hr:=r.freeze (F':=fun a=>F a∨a∈Ls i) (fun _ h=>.inl h) fun _ h=>.inr h
 have hi:i < ρ.length:=(List.getElem?_eq_some_iff.mp e).1
 refine ⟨v,hv,hr,?_⟩
 exact {
  len:=by rw [List.length_set];exact w.len
  sl:=fun j d' e'=>by
   by_cases h:j=i
   ·subst h
    rw [List.getElem?_set_self hi] at e'
    cases e'
    exact ⟨v,hv,by rw [aM];exact hr⟩
   ·rw [List.getElem?_set_ne (Ne.symm h)] at e'
    obtain ⟨u,h1,h2⟩:=w.sl j d' e'
    exact ⟨u,h1,by rw [aX h];exact h2.mono (fun _ h=>.inl h) (fun _ _ e _=>e) (fun _ _ _ e=>e) fun _ _ _ e=>e⟩
  em:=fun j h=>by
   by_cases hj:j=i
   ·rw [hj,aM]
   ·rw [aX hj]
    exact w.em j fun d' z=>h d' (by rw [List.getElem?_set_ne (Ne.symm hj)];exact z)
  nd:=fun j=>by
   by_cases hj:j=i
   ·rw [hj,aM];exact List.nodup_nil
   ·rw [aX hj];exact w.nd j
  dj:=fun j k a h1 h2=>by
   by_cases hj:j=i
   ·rw [hj,aM] at h1;simp at h1
   ·by_cases hk:k=i
    ·rw [hk,aM] at h2;simp at h2
    ·rw [aX hj] at h1;rw [aX hk] at h2;exact w.dj j k a h1 h2
  rd:=w.rd
  rj:=fun j a h=>by
   by_cases hj:j=i
   ·rw [hj,aM] at h;simp at h
   ·rw [aX hj] at h;exact w.rj j a h
  nf:=fun j a h q=>by
   by_cases hj:j=i
   ·rw [hj,aM] at h;simp at h
   ·rw [aX hj] at h
    rcases q with q | q
    ·exact w.nf j a h q
    ·exact hj (w.dj j i a h q)
  nr:=fun a h q=>by
   rcases q with q | q
   ·exact w.nr a h q
   ·exact w.rj i a q h
  tr:=w.tr
  ft:=fun a h=>by
   rcases h with h | h
   ·exact w.ft a h
   ·obtain ⟨xs,e⟩:=w.own h
    rw [e];simp }
theorem Step.share {i:Nat}:Step F H Ls (fun a=>F a∨a∈Ls i) H (jo Ls i []) []:=
 ⟨fun _ _ e _=>e,fun _ h=>.inl h,fun j a h=>by
  by_cases hj:j=i
  ·rw [hj,aM] at h;simp at h
  ·rw [aX hj] at h;exact .inl ⟨j,h⟩,fun a h=>absurd h (by simp)⟩
end
theorem Nf {X:Cx} {i:Nat} {x:Str} {pos:Pos} (hN:X.N[i]? = some x) (hv:Vis X.env.scope x) (hd:(x==("__debug__" : Str))=false:=by decide) (hcd:(x==("__classdict__" : Str))=false:=by decide):SE X (.Name x pos) (cu i):=
 (pI hN hv hd hcd).wk fun σ H Q ⟨F,ρ,Ls,R,Qd,w,⟨d,e,q⟩,k⟩=>by
  split at q
  ·rename_i hs
   obtain ⟨v,hv,r⟩:=w.sl i d e
   cases hL:Ls i with
   | nil=>rw [hL] at r;exact ⟨v,hv,k v H d _ _ _ [] r w Step.refl q⟩
   | cons _ _=>rw [r.sh_nil hs] at hL;cases hL
  ·obtain ⟨v,hv,r,w'⟩:=w.share e
   exact ⟨v,hv,k v H d.fz _ _ _ [] r w' Step.share q⟩
inductive Opd where
 | val (s:bA) | nam (i:Nat)
inductive AD where
 | val (d:D) | nam (i:Nat)
def AD.get (ρ : En):AD->Option D
 | .val d=>some d
 | .nam i=>(ρ[i]?).getD none
def dq:List Opd->En->(List AD->En->Prop)->Prop
 | [],ρ,Q=>Q [] ρ
 | .val s :: os,ρ,Q=>s ρ fun d ρ1=>dq os ρ1 fun as ρ2=>Q (.val d :: as) ρ2
 | .nam i :: os,ρ,Q=>(∃ d,ρ[i]? = some (some d))∧dq os ρ fun as ρ2=>Q (.nam i :: as) ρ2
inductive RpA (K:PySem.W.Frag) (F:Addr->Prop) (H:Hp) (σ : St):List V->List AD->List Addr->Prop where
 | nil:RpA K F H σ [] [] []
 | val {v:V} {vs:List V} {d:D} {as:List AD} {L M:List Addr}:Rp K F H v d L->RpA K F H σ vs as M->RpA K F H σ (v :: vs) (.val d :: as) (L++M)
 | nam {v:V} {vs:List V} {i:Nat} {as:List AD} {M:List Addr} : σ[i]? = some (some v)->RpA K F H σ vs as M->RpA K F H σ (v :: vs) (.nam i :: as) M
def oJ (K:PySem.W.Frag):Opd->TE
 | .val s=>iI K s
 | .nam i=>GZ i
def pQ (K:PySem.W.Frag) (os:List Opd):TA:=fun σ H Q=>∃ F ρ Ls R Qd,WS K F H σ ρ Ls R∧dq os ρ Qd ∧
 ∀ vs H' as ρ' F' Ls' La,RpA K F' H' σ vs as La->WS K F' H' σ ρ' Ls' (La++R)->Step F H Ls F' H' Ls' La->Qd as ρ'->Q vs H'
def SO (X:Cx) (e:Expr) (o:Opd):Prop:=PE X e (oJ X.K o)
def SA (X:Cx) (es:List Expr) (os:List Opd):Prop:=PA X es (pQ X.K os)
section
variable {X:Cx}
theorem aa {e:Expr} {s:bA} (h:SE X e s):SO X e (.val s):=h
theorem Nm {i:Nat} {x:Str} {pos:Pos} (hN:X.N[i]? = some x) (hv:Vis X.env.scope x) (hd:(x==("__debug__" : Str))=false:=by decide) (hcd:(x==("__classdict__" : Str))=false:=by decide):SO X (.Name x pos) (.nam i):=pI hN hv hd hcd
theorem ao:SA X [] []:=Mj.wk fun σ H Q ⟨F,ρ,Ls,R,Qd,w,q,k⟩=>k [] H [] ρ F Ls [] .nil w Step.refl q
theorem dm {K:PySem.W.Frag} {o:Opd} {os:List Opd} {σ : St} {H:Hp} {Q:List V->Hp->Prop} (h:pQ K (o :: os) σ H Q):oJ K o σ H fun v H1=>pQ K os σ H1 fun vs H2=>Q (v :: vs) H2:=by
 obtain ⟨F,ρ,Ls,R,Qd,w,q,k⟩:=h
 cases o with
 | val s=>
  refine ⟨F,ρ,Ls,R,_,w,q,fun v H1 d ρ1 F1 Ls1 Ld r1 w1 s1 q1=>?_⟩
  refine ⟨F1,ρ1,Ls1,Ld++R,_,w1,q1,fun vs H2 as ρ2 F2 Ls2 La r2 w2 s2 q2=>?_⟩
  refine k (v :: vs) H2 (.val d :: as) ρ2 F2 Ls2 (Ld++La) (.val (r1.step w1 s2 fun a ha=>List.mem_append_left _ ha) r2) (w2.perm ?_) (s1.both s2) q2
  rw [← List.append_assoc]
  exact (List.perm_append_comm.append_right R)
 | nam i=>
  obtain ⟨⟨d,e⟩,q⟩:=q
  obtain ⟨v,e,_⟩:=w.sl i d e
  exact ⟨v,e,F,ρ,Ls,R,_,w,q,fun vs H2 as ρ2 F2 Ls2 La r2 w2 s2 q2=>k (v :: vs) H2 (.nam i :: as) ρ2 F2 Ls2 La (.nam e r2) w2 s2 q2⟩
theorem aj {e:Expr} {es:List Expr} {o:Opd} {os:List Opd} (h:SO X e o) (hs:SA X es os) (he:starEach (e :: es) X.env=(false,eval e X.env) :: starEach es X.env:=by rfl):SA X (e :: es) (o :: os):=
 (Io h hs he).wk fun σ H Q q=>dm q
end
def bc (ρ : En):List AD->Option (List D)
 | []=>some []
 | a :: as=>match a.get ρ,bc ρ as with
  | some d,some ds=>some (d :: ds)
  | _,_=>none
inductive RpB (K:PySem.W.Frag) (F:Addr->Prop) (H:Hp):List V->List D->Prop where
 | nil:RpB K F H [] []
 | cons {v:V} {vs:List V} {d:D} {ds:List D} {L:List Addr}:Rp K F H v d L->RpB K F H vs ds->RpB K F H (v :: vs) (d :: ds)
section
variable {K:PySem.W.Frag} {F:Addr->Prop} {H:Hp} {σ : St} {ρ : En} {Ls:Nat->List Addr} {R:List Addr}
theorem RpA.at (w:WS K F H σ ρ Ls R):∀ {vs:List V} {as:List AD} {La:List Addr} {ds:List D},RpA K F H σ vs as La->bc ρ as=some ds->RpB K F H vs ds
 | _,_,_,_,.nil,e=>by cases e;exact .nil
 | _,_,_,_,.val (d:=d) (as:=as) r rs,e=>by
  simp only [bc,AD.get] at e
  cases h:bc ρ as with
  | none=>rw [h] at e;cases e
  | some ds=>rw [h] at e;cases e;exact .cons r (RpA.at w rs h)
 | _,_,_,_,.nam (i:=i) (as:=as) hi rs,e=>by
  simp only [bc,AD.get] at e
  cases hd : ρ[i]? with
  | none=>rw [hd] at e;simp at e
  | some o=>
   cases o with
   | none=>rw [hd] at e;simp at e
   | some d=>
    rw [hd] at e
    cases h:bc ρ as with
    | none=>rw [h] at e;simp at e
    | some ds=>
     rw [h] at e
     simp at e
     subst e
     obtain ⟨u,hu,r⟩:=w.sl i d hd
     rw [hi] at hu
     cases hu
     exact .cons r (RpA.at w rs h)
end
section
variable {X:Cx} {a b:Expr} {o1 o2:Opd} {pos:Pos}
theorem tH {K:PySem.W.Frag} {σ : St} {H:Hp} {r:R2} {Q:VK} (h:pQ K [o1,o2] σ H fun vs H1=>∃ x y,vs=[x,y]∧r x y H1 Q):tOp r (oJ K o1) (oJ K o2) σ H Q:=by
 have h1:=dm h
 have mono:∀ (o:Opd) (σ : St) (H:Hp) (P P':VK),(∀ v H,P v H->P' v H)->oJ K o σ H P->oJ K o σ H P':=fun o σ H P P' i h=>by
  cases o with
  | val s=>
   obtain ⟨F,ρ,Ls,R,Qd,w,q,k⟩:=h
   exact ⟨F,ρ,Ls,R,Qd,w,q,fun v H' d ρ' F' Ls' Ld a1 a2 a3 a4=>i _ _ (k v H' d ρ' F' Ls' Ld a1 a2 a3 a4)⟩
  | nam i'=>obtain ⟨v,e,p⟩:=h;exact ⟨v,e,i _ _ p⟩
 refine mono o1 σ H _ _ (fun v H1 q1=>?_) h1
 refine mono o2 σ H1 _ _ (fun u H2 q2=>?_) (dm q1)
 obtain ⟨F,ρ,Ls,R,Qd,w,q,k⟩:=q2
 obtain ⟨x,y,e,q⟩:=k [] H2 [] ρ F Ls [] .nil w Step.refl q
 cases e
 exact q
end
end L2
namespace L2
open PySem PySem.Spec PyProof.Rows
def Out (K:PySem.W.Frag) (F:Addr->Prop) (H:Hp) (f:D) (v:V) (H':Hp) (Lf:List Addr):Prop:=
 Rp K F H' v f Lf∧((H'=H∧Lf=[]) ∨ ∃ p,H p=none∧((∃ xs,H'=upd H p (.lst xs)∧Lf=[p]) ∨ ∃ xs,H'=upd H p (.tup xs)∧Lf=[]))
theorem Out.ofFlat {K:PySem.W.Frag} {F:Addr->Prop} {H:Hp} {f:D} {v:V} (e:f.flat=some v):Out K F H f v H []:=⟨.ofFlat e,.inl ⟨rfl,rfl⟩⟩
theorem Out.same {K:PySem.W.Frag} {F:Addr->Prop} {H:Hp} {f:D} {v:V} (r:Rp K F H v f []):Out K F H f v H []:=⟨r,.inl ⟨rfl,rfl⟩⟩
theorem Out.list {K:PySem.W.Frag} {F:Addr->Prop} {H:Hp} {ds:List D} {vs:List V} {p:Addr} (hn:H p=none) (r:Rps K F H vs ds []):Out K F H (.lst true ds) (.ref p) (upd H p (.lst vs)) [p]:=
 ⟨.own cD (r.laid hn),.inr ⟨p,hn,.inl ⟨vs,rfl,rfl⟩⟩⟩
theorem Out.tuple {K:PySem.W.Frag} {F:Addr->Prop} {H:Hp} {ds:List D} {vs:List V} {p:Addr} (hn:H p=none) (r:Rps K F H vs ds []):Out K F H (.tup ds) (.ref p) (upd H p (.tup vs)) []:=
 ⟨.tup cD (r.laid hn),.inr ⟨p,hn,.inr ⟨vs,rfl,rfl⟩⟩⟩
def cz (K:PySem.W.Frag) (r:List V->Hp->VK->Prop) (g:List D->Option D):Prop:=
 ∀ (F:Addr->Prop) (H:Hp) (vs:List V) (ds:List D) (f:D) (Q:VK),RpB K F H vs ds->g ds=some f->(∀ v H' Lf,Out K F H f v H' Lf->Q v H')->r vs H Q
def sDo (g:List D->Option D) (os:List Opd):bA:=fun ρ Q=>dq os ρ fun as ρ'=>∃ ds f,bc ρ' as=some ds∧g ds=some f∧Q f ρ'
theorem iH {K:PySem.W.Frag} {r:List V->Hp->VK->Prop} {g:List D->Option D} (hg:cz K r g) {os:List Opd} {σ : St} {H:Hp} {Q:VK} (h:iI K (sDo g os) σ H Q):pQ K os σ H fun vs H1=>r vs H1 Q:=by
 obtain ⟨F,ρ,Ls,R,Qd,w,q,k⟩:=h
 refine ⟨F,ρ,Ls,R,_,w,q,fun vs H1 as ρ1 F1 Ls1 La r1 w1 s1 q1=>?_⟩
 obtain ⟨ds,f,e1,e2,q1⟩:=q1
 refine hg F1 H1 vs ds f Q (r1.at w1 e1) e2 fun v H2 Lf o=>?_
 obtain ⟨rf,o⟩:=o
 have w2:=w1.less (List.sublist_append_right La R)
 have s2:=s1.more (Ld2:=[]) fun a h=>absurd h (by simp)
 rcases o with ⟨rfl,rfl⟩ | ⟨p,hn,⟨xs,rfl,rfl⟩ | ⟨xs,rfl,rfl⟩⟩
 ·exact k v _ f ρ1 F1 Ls1 [] rf w2 s2 q1
 ·exact k v _ f ρ1 F1 Ls1 [p] rf (w2.put hn) ((s2.trans (Step.laid hn)).more fun a ha=>by
   cases List.mem_singleton.mp ha
   by_cases e:∃ j,p∈Ls j
   ·exact .inl e
   ·cases q:H p with
    | none=>exact .inr rfl
    | some o=>rw [s1.keep p o q fun i z=>e ⟨i,z⟩] at hn;cases hn) q1
 ·exact k v _ f ρ1 F1 Ls1 [] rf (w2.laid hn) (s2.trans (Step.laid hn)) q1
abbrev r2 (r:R2):List V->Hp->VK->Prop:=fun vs H Q=>∃ x y,vs=[x,y]∧r x y H Q
section
variable {X:Cx} {a b:Expr} {o1 o2:Opd} {pos:Pos} {r:R2} {g:List D->Option D}
theorem aK {op:Operator} (ho:OpR X (binaryOp op) r) (hg:cz X.K (r2 r) g) (ha:SO X a o1) (hb:SO X b o2):SE X (.BinOp a op b pos) (sDo g [o1,o2]):=
 (Ov ho ha hb).wk fun σ H Q h=>tH (iH hg h)
theorem pM {op:CmpOp} (ho:OpR X (compareOp op) r) (hg:cz X.K (r2 r) g) (ha:SO X a o1) (hb:SO X b o2) (hm:behindInMarks op b=false):SE X (.Compare a [op] [b] pos) (sDo g [o1,o2]):=
 (Ir ho ha hb hm).wk fun σ H Q h=>tH (iH hg h)
theorem gR (hr:IxR X r) (hg:cz X.K (r2 r) g) (ha:SO X a o1) (hb:SO X b o2) (hs:uR b):SE X (.Subscript a b pos) (sDo g [o1,o2]):=
 (JZ hr ha hb hs).wk fun σ H Q h=>tH (iH hg h)
theorem iC {K:PySem.W.Frag} {o:Opd} {σ : St} {H:Hp} {P P':VK} (i:∀ v H,P v H->P' v H) (h:oJ K o σ H P):oJ K o σ H P':=by
 cases o with
 | val s=>
  obtain ⟨F,ρ,Ls,R,Qd,w,q,k⟩:=h
  exact ⟨F,ρ,Ls,R,Qd,w,q,fun v H' d ρ' F' Ls' Ld a1 a2 a3 a4=>i _ _ (k v H' d ρ' F' Ls' Ld a1 a2 a3 a4)⟩
 | nam i'=>obtain ⟨v,e,p⟩:=h;exact ⟨v,e,i _ _ p⟩
theorem zJ {K:PySem.W.Frag} {σ : St} {H:Hp} {P:VK} (h:pQ K [o1] σ H fun vs H1=>∃ x,vs=[x]∧P x H1):oJ K o1 σ H P:=by
 refine iC (fun v H1 q1=>?_) (dm h)
 obtain ⟨F,ρ,Ls,R,Qd,w,q,k⟩:=q1
 obtain ⟨x,e,q⟩:=k [] H1 [] ρ F Ls [] .nil w Step.refl q
 cases e
 exact q
theorem uI {op:UnaryOp} {r:V->Hp->VK->Prop} (ho:UnR X (unaryOp op) r) (hg:cz X.K (fun vs H Q=>∃ x,vs=[x]∧r x H Q) g) (ha:SO X a o1):SE X (.UnaryOp op a pos) (sDo g [o1]):=
 (Ow ho ha).wk fun σ H Q h=>zJ (iH hg h)
theorem bf {x:Str} {id:String} {rr:List V->Hp->VK->Prop} {es:List Expr} {os:List Opd} {p:Pos} {e:Expr} (hc:gq X (.builtin id) rr) (hg:cz X.K rr g) (hl:Gl X x) (hm:X.mg x=none) (hv:bootBuiltins x=some (.builtin id)) (ha:SA X (e :: es) os)
  (hn:x ≠ "__name__":=by decide) (hdb:(x==("__debug__" : Str))=false:=by decide)
  (he:starEach (e :: es) X.env=(false,eval e X.env) :: starEach es X.env:=by rfl) (hpl:(backTo pos (starEach es X.env)).any (·.1)=false:=by rfl):SE X (.Call (.Name x p) (e :: es) [] pos) (sDo g os):=
 (Gj hc hl hm hv ha hn hdb he hpl).wk fun σ H Q h=>iH hg h
theorem gB {x:Str} {T:String} {rr:List V->Hp->VK->Prop} {es:List Expr} {os:List Opd} {p:Pos} {e:Expr} (hc:gq X (.type T) rr) (hg:cz X.K rr g) (hl:Gl X x) (hm:X.mg x=none) (hv:bootBuiltins x=some (.type T)) (ha:SA X (e :: es) os)
  (hn:x ≠ "__name__":=by decide) (hdb:(x==("__debug__" : Str))=false:=by decide)
  (he:starEach (e :: es) X.env=(false,eval e X.env) :: starEach es X.env:=by rfl) (hpl:(backTo pos (starEach es X.env)).any (·.1)=false:=by rfl):SE X (.Call (.Name x p) (e :: es) [] pos) (sDo g os):=
 (Dg hc hl hm hv ha hn hdb he hpl).wk fun σ H Q h=>iH hg h
end
structure Cc (X:Cx) (k:Nat):Prop where
 calm:X.calm=true
 room:Room k X.A
 tree:X.prog.given.tree=none
 seer:∃ env l,X.stack=env :: l∧env.scope.isGenerator=false∧env.scope.isCoroutine=false∧env.builtins=builtinsNs∧env.globals=mainGlobals
theorem Cc.mono {X:Cx} {j k:Nat} (c:Cc X k) (h:j<=k):Cc X j:=⟨c.calm,c.room.mono h,c.tree,c.seer⟩
abbrev bits (i:Int):Nat:=Builtin.Int.intBits i
def cC:List D->Option D
 | [.int i,.int j]=>some (.int (i+j))
 | [.str x,.str y]=>if x.length+y.length<=sizeLine then some (.str (x++y)) else none
 | [.lst _ xs,.lst _ ys]=>if xs.length+ys.length<=sizeLine∧D.shs xs=true∧D.shs ys=true then some (.lst true (xs++ys)) else none
 | [.tup xs,.tup ys]=>if xs.length+ys.length<=sizeLine∧D.shs xs=true∧D.shs ys=true then some (.tup (xs++ys)) else none
 | _=>none
section
variable {K:PySem.W.Frag} {F:Addr->Prop} {H:Hp}
theorem RpB.two {vs:List V} {d e:D} (r:RpB K F H vs [d,e]):∃ x y L M,vs=[x,y]∧Rp K F H x d L∧Rp K F H y e M:=by
 cases r with
 | cons r1 rs=>cases rs with
  | cons r2 rs=>cases rs with
   | nil=>exact ⟨_,_,_,_,rfl,r1,r2⟩
theorem RpB.one {vs:List V} {d:D} (r:RpB K F H vs [d]):∃ x L,vs=[x]∧Rp K F H x d L:=by
 cases r with
 | cons r1 rs=>cases rs with
  | nil=>exact ⟨_,_,rfl,r1⟩
theorem RpB.length:∀ {vs:List V} {ds:List D},RpB K F H vs ds->vs.length=ds.length
 | _,_,.nil=>rfl
 | _,_,.cons _ rs=>by rw [List.length_cons,List.length_cons,RpB.length rs]
theorem Rp.lst_at {v:V} {o:Bool} {ds:List D} {L:List Addr} (r:Rp K F H v (.lst o ds) L):∃ a vs M,v = .ref a∧H a=some (.lst vs)∧Rps K F H vs ds M∧(∀ b∈M,b∈L):=by
 cases r with
 | frz h f r=>exact ⟨_,_,_,rfl,h,r,fun b h=>h⟩
 | own h r=>exact ⟨_,_,_,rfl,h,r,fun b h=>List.mem_cons_of_mem _ h⟩
theorem Rp.tup_at {v:V} {ds:List D} {L:List Addr} (r:Rp K F H v (.tup ds) L):∃ a vs,v = .ref a∧SqT K H a vs∧Rps K F H vs ds L:=by
 cases r with
 | tup h r=>exact ⟨_,_,rfl,.of h,r⟩
theorem Rp.tup_in {v:V} {ds:List D} {L:List Addr} (r:Rp K F H v (.tup ds) L):∃ a vs,v = .ref a∧H a=some (.tup vs)∧Rps K F H vs ds L:=by
 cases r with
 | tup h r=>exact ⟨_,_,rfl,h,r⟩
end
section
variable {X:Cx}
theorem Gd:OpR X (binaryOp .Add) (fun x y H Q=>∃ a b ys,x = .ref a∧y = .ref b∧SqT X.K H a []∧SqT X.K H b ys∧Q (.ref b) H):=by
 intro pins s σ H x y v u Q I rx ry h
 obtain ⟨a,b,ys,rfl,rfl,ha,hb,q⟩:=h
 cases rx;cases ry
 obtain ⟨its,r,ht,hz⟩:=I.tuple ha
 obtain ⟨its2,r',ht',hz'⟩:=I.tuple hb
 have e0:its=[]:=by have:=r.length;simpa using this.symm
 subst e0
 obtain ⟨⟨cls,dd,data,sl⟩,ho,hc,n,hd⟩:=id ht
 obtain ⟨⟨cls2,dd2,data2,sl2⟩,ho2,hc2,n2,hd2⟩:=id ht'
 simp only at hc hd hc2 hd2
 subst hc hd hc2 hd2
 exact concat_meets ⟨_,ho,rfl⟩ ⟨_,ho2,rfl⟩ noFill_tuple_add seq_tuple_add PySem.F.slot_tuple_add PySem.F.entry_tuple_add (PySem.F.args_tuple_add_2 _ _)
   (tuple_addW0 a b #[] its2.toArray n n2 dd dd2 sl sl2 rfl) ⟨ho,ho2,⟨.ref b,H,I,rfl,q⟩⟩
def Bm (K:PySem.W.Frag):R2:=fun x y H Q=>rI0 (fun i j=>.int (i+j)) x y H Q∨(∃ i j,x = .str i∧y = .str j∧i.length+j.length<=sizeLine∧Q (.str (i++j)) H)∨Pa x y H Q∨Ka K x y H Q ∨
 ∃ a b ys,x = .ref a∧y = .ref b∧SqT K H a []∧SqT K H b ys∧Q (.ref b) H
theorem aW:OpR X (binaryOp .Add) (Bm X.K):=Ga.or (zq.or (Mh.or (Il.or Gd)))
theorem bu {K:PySem.W.Frag}:cz K (r2 (Bm K)) cC:=by
 intro F H vs ds f Q r e q
 unfold cC at e
 split at e
 ·cases e
  obtain ⟨x,y,L,M,rfl,r1,r2⟩:=r.two
  cases r1.isInt;cases r2.isInt
  exact ⟨_,_,rfl,.inl ⟨_,_,rfl,rfl,q _ _ _ (.ofFlat rfl)⟩⟩
 ·obtain ⟨x,y,L,M,rfl,r1,r2⟩:=r.two
  cases r1.isStr;cases r2.isStr
  split at e
  ·cases e
   exact ⟨_,_,rfl,.inr (.inl ⟨_,_,rfl,rfl,by assumption,q _ _ _ (.ofFlat rfl)⟩)⟩
  ·cases e
 ·obtain ⟨x,y,L,M,rfl,r1,r2⟩:=r.two
  split at e
  ·rename_i hc
   cases e
   obtain ⟨a,vs,L1,rfl,ha,ra,_⟩:=r1.lst_at
   obtain ⟨b,ws,L2,rfl,hb,rb,_⟩:=r2.lst_at
   cases ra.sh_nil hc.2.1;cases rb.sh_nil hc.2.2
   refine ⟨_,_,rfl,.inr (.inr (.inl ⟨_,_,_,_,rfl,rfl,ha,hb,by rw [ra.length,rb.length];exact hc.1,fun p hp=>q _ _ _ (.list hp (ra.append rb))⟩))⟩
  ·cases e
 ·obtain ⟨x,y,L,M,rfl,r1,r2⟩:=r.two
  split at e
  ·rename_i hc
   cases e
   obtain ⟨a,vs,rfl,ha',ra⟩:=r1.tup_in
   obtain ⟨b,ws,rfl,hb',rb⟩:=r2.tup_in
   have ha:SqT K H a vs:=.of ha'
   have hb:SqT K H b ws:=.of hb'
   cases ra.sh_nil hc.2.1;cases rb.sh_nil hc.2.2
   refine ⟨_,_,rfl,.inr (.inr (.inr ?_))⟩
   by_cases e1:vs=[]
   ·subst e1
    have e2:=List.length_eq_zero_iff.mp (show _=0 from ra.length.symm)
    subst e2
    exact .inr ⟨_,_,_,rfl,rfl,ha,hb,q _ _ _ (.same (.tup hb' rb))⟩
   ·refine .inl ⟨_,_,_,_,rfl,rfl,ha,hb,e1,by rw [ra.length,rb.length];exact hc.1,fun e2=>?_,fun e2 p hp=>q _ _ _ (.tuple hp (ra.append rb))⟩
    subst e2
    have e3:=List.length_eq_zero_iff.mp (show _=0 from rb.length.symm)
    subst e3
    rw [List.append_nil] at q
    exact q _ _ _ (.same (.tup ha' ra))
  ·cases e
 ·cases e
end
def zP (i j:Int):Prop:=bits i+bits j<=134217728
def lq (i j:Int):Bool:=decide (bits i+bits j<=134217728)
section
variable {X:Cx}
theorem Im:OpR X (binaryOp .Mult) (rI zP fun i j=>.int (i*j)):=opI fun _ _ _ _ _ _ _ c q=>mul_int q (IntMulOk.of_le (Nat.le_refl _) (Nat.le_refl _) c)
theorem sJ (c:Cc X 34):OpR X (binaryOp .FloorDiv) (rI (fun _ j=>j≠0) fun i j=>.int (i.fdiv j)):=by
 intro pins s σ H x y v u Q I rx ry h
 obtain ⟨i,j,rfl,rfl,hj,q⟩:=h
 obtain ⟨t,rfl⟩:=rx
 obtain ⟨t',rfl⟩:=ry
 obtain ⟨env,l,e1,e2,e3,e4,e5⟩:=c.seer
 refine floordiv_int hj ⟨.int _,H,I.tok _,⟨_,rfl⟩,q⟩ (.inr (PylongRoom.of I.nolimit ?_ (SeerAt.of (I.ok.mod.seer.keeps I.bk) c.tree (I.ok.frames.trans (congrArg some e1)) e2 e3 e4 e5)))
 have:=c.room.dp
 show X.A.depth+100<recursionLimit
 omega
end
def mF:List D->Option D
 | [.int i,.int j]=>if lq i j=true then some (.int (i*j)) else none
 | [.lst _ xs,.int k]=>if (decide (-(2 ^ 63)<=k∧k<2 ^ 63∧xs.length*k.toNat<=sizeLine)&&D.shs xs)=true then some (.lst true (List.replicate k.toNat xs).flatten) else none
 | _=>none
theorem Rps.rep {K:PySem.W.Frag} {F:Addr->Prop} {H:Hp} {vs:List V} {ds:List D} (r:Rps K F H vs ds []):∀ n:Nat,Rps K F H (List.replicate n vs).flatten (List.replicate n ds).flatten []
 | 0=>.nil
 | n+1=>by
  rw [List.replicate_succ,List.replicate_succ,List.flatten_cons,List.flatten_cons]
  exact r.append (Rps.rep r n)
theorem ie {X:Cx}:OpR X (binaryOp .Mult) (fun x y H Q=>rI zP (fun i j=>.int (i*j)) x y H Q∨MK x y H Q):=Im.or Mi
theorem jb {K:PySem.W.Frag}:cz K (r2 fun x y H Q=>rI zP (fun i j=>.int (i*j)) x y H Q∨MK x y H Q) mF:=by
 intro F H vs ds f Q r e q
 unfold mF at e
 split at e
 ·split at e
  ·rename_i h
   cases e
   obtain ⟨x,y,L,M,rfl,r1,r2⟩:=r.two
   cases r1.isInt;cases r2.isInt
   exact ⟨_,_,rfl,.inl ⟨_,_,rfl,rfl,(by unfold lq at h;unfold zP;exact of_decide_eq_true h),q _ _ _ (.ofFlat rfl)⟩⟩
  ·cases e
 ·split at e
  ·rename_i h
   cases e
   rw [Bool.and_eq_true,decide_eq_true_eq] at h
   obtain ⟨⟨h1,h2,h3⟩,h4⟩:=h
   obtain ⟨x,y,L,M,rfl,r1,r2⟩:=r.two
   cases r2.isInt
   obtain ⟨a,vs,L1,rfl,ha,ra,_⟩:=r1.lst_at
   cases ra.sh_nil h4
   refine ⟨_,_,rfl,.inr ⟨_,_,_,rfl,rfl,ha,h1,h2,by rw [ra.length];exact h3,fun p hp=>q _ _ _ (.list hp (ra.rep _))⟩⟩
  ·cases e
 ·cases e
def qH (d:D):Bool:=SeqAt.shaped d.dat
def dEq:List D->Option D
 | [d,e]=>if (qH d&&qH e)=true then some (.bl (PyData.eqv d.dat e.dat)) else none
 | _=>none
def dNe:List D->Option D
 | [d,e]=>if (qH d&&qH e)=true then some (.bl (!PyData.eqv d.dat e.dat)) else none
 | _=>none
theorem iy {K:PySem.W.Frag}:cz K (r2 (Pg K)) dEq:=by
 intro F H vs ds f Q r e q
 unfold dEq at e
 split at e
 ·split at e
  ·rename_i h
   cases e
   rw [Bool.and_eq_true] at h
   obtain ⟨x,y,L,M,rfl,r1,r2⟩:=r.two
   exact ⟨_,_,rfl,_,_,r1.dp (D.pl_of _ (SeqAt.canLay_of_shaped h.1)),r2.dp (D.pl_of _ (SeqAt.canLay_of_shaped h.2)),h.1,h.2,q _ _ _ (.ofFlat rfl)⟩
  ·cases e
 ·cases e
theorem zW {K:PySem.W.Frag}:cz K (r2 (Pq K)) dNe:=by
 intro F H vs ds f Q r e q
 unfold dNe at e
 split at e
 ·split at e
  ·rename_i h
   cases e
   rw [Bool.and_eq_true] at h
   obtain ⟨x,y,L,M,rfl,r1,r2⟩:=r.two
   exact ⟨_,_,rfl,_,_,r1.dp (D.pl_of _ (SeqAt.canLay_of_shaped h.1)),r2.dp (D.pl_of _ (SeqAt.canLay_of_shaped h.2)),h.1,h.2,q _ _ _ (.ofFlat rfl)⟩
  ·cases e
 ·cases e
def D.isNon:D->Bool
 | .non=>true
 | _=>false
def yP:List D->Option D
 | [d,.non]=>some (.bl d.isNon)
 | _=>none
def Oh:List D->Option D
 | [d,.non]=>some (.bl (!d.isNon))
 | _=>none
theorem Rp.isNon {K:PySem.W.Frag} {F:Addr->Prop} {H:Hp} {v:V} {d:D} {L:List Addr} (r:Rp K F H v d L):decide (v = .non)=d.isNon:=by
 cases r <;> simp [D.isNon]
theorem wO {K:PySem.W.Frag}:cz K (r2 fun x y H Q=>y = .non∧Q (.bl (decide (x = .non))) H) yP:=by
 intro F H vs ds f Q r e q
 unfold yP at e
 split at e
 ·cases e
  obtain ⟨x,y,L,M,rfl,r1,r2⟩:=r.two
  cases r2
  exact ⟨_,_,rfl,rfl,by rw [r1.isNon];exact q _ _ _ (.ofFlat rfl)⟩
 ·cases e
def dIx:List D->Option D
 | [.lst _ ds,.int k]=>(atI ds k).bind fun d=>if d.sh=true then some d else none
 | [.tup ds,.int k]=>(atI ds k).bind fun d=>if d.sh=true then some d else none
 | [.scr ns,.int k]=>(atI ns k).map D.int
 | [.str z,.int k]=>if z.length<=sizeLine then (atI z.cps.toList k).map fun c=>.str ⟨#[c]⟩ else none
 | _=>none
theorem Rps.atI {K:PySem.W.Frag} {F:Addr->Prop} {H:Hp} {vs:List V} {ds:List D} {L:List Addr} {k:Int} {d:D} (r:Rps K F H vs ds L) (e:L2.atI ds k=some d):∃ v M,L2.atI vs k=some v∧Rp K F H v d M:=by
 unfold L2.atI at e ⊢
 rw [r.length]
 cases h:ixN ds.length k with
 | none=>rw [h] at e;cases e
 | some j=>
  rw [h] at e
  obtain ⟨v,M,h1,h2,_⟩:=r.get e
  exact ⟨v,M,h1,h2⟩
theorem Hr {α β : Type} (g : α -> β) (xs:List α) (k:Int):atI (xs.map g) k=(atI xs k).map g:=by
 unfold atI
 rw [List.length_map]
 cases ixN xs.length k with
 | none=>rfl
 | some j=>simp
theorem dU {K:PySem.W.Frag}:cz K (r2 (rIx K)) dIx:=by
 intro F H vs ds f Q r e q
 unfold dIx at e
 split at e
 ·obtain ⟨x,y,L,M,rfl,r1,r2⟩:=r.two
  cases r2.isInt
  obtain ⟨d,e1,e2⟩:=Option.bind_eq_some_iff.mp e
  split at e2
  ·rename_i hs
   cases e2
   obtain ⟨a,vs,L1,rfl,ha,ra,_⟩:=r1.lst_at
   obtain ⟨v,N,h1,h2⟩:=ra.atI e1
   cases h2.sh_nil hs
   exact ⟨_,_,rfl,.inl ⟨_,_,_,_,rfl,rfl,.of ha,h1,q _ _ _ (.same h2)⟩⟩
  ·cases e2
 ·obtain ⟨x,y,L,M,rfl,r1,r2⟩:=r.two
  cases r2.isInt
  obtain ⟨d,e1,e2⟩:=Option.bind_eq_some_iff.mp e
  split at e2
  ·rename_i hs
   cases e2
   obtain ⟨a,vs,rfl,ha,ra⟩:=r1.tup_at
   obtain ⟨v,N,h1,h2⟩:=ra.atI e1
   cases h2.sh_nil hs
   exact ⟨_,_,rfl,.inr (.inl ⟨_,_,_,_,rfl,rfl,ha,h1,q _ _ _ (.same h2)⟩)⟩
  ·cases e2
 ·obtain ⟨x,y,L,M,rfl,r1,r2⟩:=r.two
  cases r2.isInt
  obtain ⟨n,e1,rfl⟩:=Option.map_eq_some_iff.mp e
  cases r1 with
  | scr h=>exact ⟨_,_,rfl,.inl ⟨_,_,_,_,rfl,rfl,h.sq,by rw [Hr,e1];rfl,q _ _ _ (.ofFlat rfl)⟩⟩
 ·obtain ⟨x,y,L,M,rfl,r1,r2⟩:=r.two
  cases r1.isStr
  cases r2.isInt
  split at e
  ·rename_i hz
   obtain ⟨n,e1,rfl⟩:=Option.map_eq_some_iff.mp e
   exact ⟨_,_,rfl,.inr (.inr ⟨_,_,_,rfl,rfl,hz,e1,q _ _ _ (.ofFlat rfl)⟩)⟩
  ·cases e
 ·cases e
def jQ:List D->Option D
 | [.lst _ ds]=>some (.int ds.length)
 | [.tup ds]=>some (.int ds.length)
 | [.scr ns]=>some (.int ns.length)
 | [.str z]=>if z.length<=sizeLine then some (.int z.length) else none
 | _=>none
def Pn (K:PySem.W.Frag):List V->Hp->VK->Prop:=fun xs H Q=>(∃ p ys,xs=[.ref p]∧(SqL K H p ys∨SqT K H p ys)∧Q (.int ys.length) H) ∨ ∃ z,xs=[.str z]∧z.length<=sizeLine∧Q (.int z.length) H
theorem dg {X:Cx}:gq X (.builtin "len") (Pn X.K):=uW.or uX
theorem gF {K:PySem.W.Frag}:cz K (Pn K) jQ:=by
 intro F H vs ds f Q r e q
 unfold jQ at e
 split at e
 ·cases e
  obtain ⟨x,L,rfl,r1⟩:=r.one
  obtain ⟨a,vs,L1,rfl,ha,ra,_⟩:=r1.lst_at
  exact .inl ⟨_,_,rfl,.inl (.of ha),by rw [ra.length];exact q _ _ _ (.ofFlat rfl)⟩
 ·cases e
  obtain ⟨x,L,rfl,r1⟩:=r.one
  obtain ⟨a,vs,rfl,ha,ra⟩:=r1.tup_at
  exact .inl ⟨_,_,rfl,.inr ha,by rw [ra.length];exact q _ _ _ (.ofFlat rfl)⟩
 ·cases e
  obtain ⟨x,L,rfl,r1⟩:=r.one
  cases r1 with
  | scr h=>exact .inl ⟨_,_,rfl,.inl h.sq,by rw [List.length_map];exact q _ _ _ (.ofFlat rfl)⟩
 ·obtain ⟨x,L,rfl,r1⟩:=r.one
  cases r1.isStr
  split at e
  ·rename_i hz
   cases e
   exact .inr ⟨_,rfl,hz,q _ _ _ (.ofFlat rfl)⟩
  ·cases e
 ·cases e
end L2
namespace L2
open PySem PySem.Spec PyProof.Rows
abbrev dR:=En->(Bool->En->Prop)->Prop
def mV (K:PySem.W.Frag) (t:dR):TT:=fun σ H Q=>∃ F ρ Ls R Qd,WS K F H σ ρ Ls R∧t ρ Qd ∧
 ∀ b H' ρ' F' Ls',WS K F' H' σ ρ' Ls' R->Step F H Ls F' H' Ls' []->Qd b ρ'->Q b H'
def SB (X:Cx) (e:Expr) (t:dR):Prop:=PT X e (mV X.K t)
def SW (X:Cx) (e:Expr) (t:dR):Prop:=PW X e (mV X.K t)
theorem SW.b {X:Cx} {e:Expr} {t:dR} (h:SW X e t):SB X e t:=PW.pt h
def D.tru:D->Option Bool
 | .non=>some false
 | .bl b=>some b
 | .int i=>some (i != 0)
 | .str x=>if x.length<=sizeLine then some ((x.length:Int) != 0) else none
 | .tup ds=>some (!ds.isEmpty)
 | .lst _ ds=>some (!ds.isEmpty)
 | .scr ns=>some (!ns.isEmpty)
 | .ty _=>none
 | .xc _ _=>none
 | .fn _=>none
 | .dct _ _ _=>none
theorem Rps.empty {K:PySem.W.Frag} {F:Addr->Prop} {H:Hp} {vs:List V} {ds:List D} {L:List Addr} (r:Rps K F H vs ds L):ds.isEmpty=vs.isEmpty:=by
 have e:=r.length
 cases vs <;> cases ds <;> simp_all
theorem Rp.tru {K:PySem.W.Frag} {F:Addr->Prop} {H:Hp} {v:V} {d:D} {L:List Addr} {b:Bool} (r:Rp K F H v d L) (e:d.tru=some b):Kf K v H b:=by
 cases r with
 | non=>cases e;rfl
 | bl c=>cases e;rfl
 | int i=>cases e;rfl
 | str x=>
  have e':(if x.length<=sizeLine then some ((x.length:Int) != 0) else none)=some b:=e
  by_cases hz:x.length<=sizeLine
  ·rw [if_pos hz] at e';cases e';exact ⟨hz,rfl⟩
  ·rw [if_neg hz] at e';cases e'
 | ty n=>cases e
 | xc _ _ _=>cases e
 | fn _=>cases e
 | dfz _ _ _=>cases e
 | down _ _=>cases e
 | tup h r=>cases e;exact .inr (.inl ⟨_,.of h,by rw [r.empty]⟩)
 | scr h=>cases e;exact .inl ⟨_,h.sq,by simp⟩
 | frz h f r=>cases e;exact .inl ⟨_,.of h,by rw [r.empty]⟩
 | own h r=>cases e;exact .inl ⟨_,.of h,by rw [r.empty]⟩
def bU (o:Opd):dR:=fun ρ Q=>dq [o] ρ fun as ρ'=>∃ d b,bc ρ' as=some [d]∧d.tru=some b∧Q b ρ'
def tB' (s:bA):dR:=fun ρ Q=>s ρ fun d ρ'=>∃ b,d = .bl b∧Q b ρ'
def tE (t u:dR):dR:=fun ρ Q=>t ρ fun b ρ'=>if b=true then u ρ' Q else Q false ρ'
def fu (t u:dR):dR:=fun ρ Q=>t ρ fun b ρ'=>if b=true then Q true ρ' else u ρ' Q
def bB (t:dR):dR:=fun ρ Q=>t ρ fun b ρ'=>Q (!b) ρ'
section
variable {X:Cx} {a b:Expr} {o o1 o2:Opd} {pos:Pos} {t u:dR} {K:PySem.W.Frag} {σ : St} {H:Hp} {rest:List Expr}
theorem aY (h:SO X a o) (he:∀ whole,isTrue a X.env whole=(do let v ← whole;standAt a.pos;holding [v] (truthy v)):=by intro _;rfl):SB X a (bU o):=
 (Gx h he).wk fun σ H Q ⟨F,ρ,Ls,R,Qd,w,q,k⟩=>zJ ⟨F,ρ,Ls,R,_,w,q,fun vs H1 as ρ1 F1 Ls1 La r1 w1 s1 ⟨d,b,e1,e2,q1⟩=>by
  obtain ⟨x,L,rfl,rx⟩:=(r1.at w1 e1).one
  exact ⟨x,rfl,b,rx.tru e2,k b H1 ρ1 F1 Ls1 (w1.less (List.sublist_append_right _ _)) (s1.more fun a h=>absurd h (by simp)) q1⟩⟩
theorem Qs {s:bA} {Q:Bool->Hp->Prop} (h:mV K (tB' s) σ H Q):iI K s σ H fun x H'=>∃ k,x = .bl k∧Q k H':=by
 obtain ⟨F,ρ,Ls,R,Qd,w,q,k⟩:=h
 refine ⟨F,ρ,Ls,R,_,w,q,fun v H1 d ρ1 F1 Ls1 Ld r1 w1 s1 ⟨b,e,q1⟩=>?_⟩
 subst e
 cases r1
 exact ⟨b,rfl,k b H1 ρ1 F1 Ls1 w1 s1 q1⟩
theorem eV {op:CmpOp} {r:R2} {g:List D->Option D} (ho:OpR X (compareOp op) r) (hg:cz X.K (r2 r) g) (ha:SO X a o1) (hb:SO X b o2) (hm:behindInMarks op b=false):SB X (.Compare a [op] [b] pos) (tB' (sDo g [o1,o2])):=
 (Jd ho ha hb hm).wk fun σ H Q h=>tH (iH hg (Qs h))
theorem zK {t:dR} {k:Bool->dR} {Q:Bool->Hp->Prop} (h:mV K (fun ρ Q=>t ρ fun b ρ'=>k b ρ' Q) σ H Q):mV K t σ H fun c H1=>mV K (k c) σ H1 Q:=by
 obtain ⟨F,ρ,Ls,R,Qd,w,q,kk⟩:=h
 exact ⟨F,ρ,Ls,R,_,w,q,fun c H1 ρ1 F1 Ls1 w1 s1 q1=>⟨F1,ρ1,Ls1,R,_,w1,q1,fun b H2 ρ2 F2 Ls2 w2 s2 q2=>kk b H2 ρ2 F2 Ls2 w2 (s1.trans s2) q2⟩⟩
theorem qR {b:Bool} {Q:Bool->Hp->Prop} (h:mV K (fun ρ Q=>Q b ρ) σ H Q):Q b H:=by
 obtain ⟨F,ρ,Ls,R,Qd,w,q,kk⟩:=h
 exact kk b H ρ F Ls w Step.refl q
theorem qT {t:dR} {P P':Bool->Hp->Prop} (h:mV K t σ H P) (i:∀ b H,P b H->P' b H):mV K t σ H P':=by
 obtain ⟨F,ρ,Ls,R,Qd,w,q,k⟩:=h
 exact ⟨F,ρ,Ls,R,Qd,w,q,fun b H' ρ' F' Ls' a1 a2 a3=>i _ _ (k b H' ρ' F' Ls' a1 a2 a3)⟩
theorem BK (ha:SB X a t):SW X (.BoolOp .And [a] pos) t:=Jg ha
theorem dD (ha:SB X a t):SW X (.BoolOp .Or [a] pos) t:=MJ ha
theorem zG (ha:SB X a t) (hb:SW X (.BoolOp .And (b :: rest) pos) u):SW X (.BoolOp .And (a :: b :: rest) pos) (tE t u):=
 (MF ha hb).wk fun σ H Q h=>qT (zK (k:=fun b ρ Q=>if b=true then u ρ Q else Q false ρ) h) fun b H q=>by
  cases b with
  | true=>simpa using q
  | false=>simpa using qR (by simpa using q)
theorem dz (ha:SB X a t) (hb:SW X (.BoolOp .Or (b :: rest) pos) u):SW X (.BoolOp .Or (a :: b :: rest) pos) (fu t u):=
 (OJ ha hb).wk fun σ H Q h=>qT (zK (k:=fun b ρ Q=>if b=true then Q true ρ else u ρ Q) h) fun b H q=>by
  cases b with
  | false=>simpa using q
  | true=>simpa using qR (by simpa using q)
theorem bj (ha:SB X a t):SB X (.UnaryOp .Not a pos) (bB t):=
 (Mz ha).wk fun σ H Q h=>qT (zK (k:=fun b ρ Q=>Q (!b) ρ) h) fun b H q=>qR q
end
def dG (s u:bA):bA:=fun ρ Q=>s ρ fun d ρ'=>∃ c,d = .bl c∧if c=true then u ρ' Q else Q (.bl false) ρ'
def PL (s u:bA):bA:=fun ρ Q=>s ρ fun d ρ'=>∃ c,d = .bl c∧if c=true then Q (.bl true) ρ' else u ρ' Q
def yp (s:bA):bA:=fun ρ Q=>s ρ fun d ρ'=>∃ c,d = .bl c∧Q (.bl (!c)) ρ'
def MT (t:dR) (s u:bA):bA:=fun ρ Q=>t ρ fun c ρ'=>if c=true then s ρ' Q else u ρ' Q
section
variable {X:Cx} {a b c:Expr} {pos:Pos} {s u:bA} {t:dR} {rest:List Expr} {K:PySem.W.Frag} {σ : St} {H:Hp}
theorem vW {s:bA} {P P':VK} (h:iI K s σ H P) (i:∀ v H,P v H->P' v H):iI K s σ H P':=by
 obtain ⟨F,ρ,Ls,R,Qd,w,q,k⟩:=h
 exact ⟨F,ρ,Ls,R,Qd,w,q,fun v H' d ρ' F' Ls' Ld a1 a2 a3 a4=>i _ _ (k v H' d ρ' F' Ls' Ld a1 a2 a3 a4)⟩
theorem BP {s:bA} {k:Bool->bA} {Q:VK} (h:iI K (fun ρ Q=>s ρ fun d ρ'=>∃ c,d = .bl c∧k c ρ' Q) σ H Q):iI K s σ H fun x H1=>∃ c,x = .bl c∧iI K (k c) σ H1 Q:=by
 obtain ⟨F,ρ,Ls,R,Qd,w,q,kk⟩:=h
 refine ⟨F,ρ,Ls,R,_,w,q,fun v H1 d ρ1 F1 Ls1 Ld r1 w1 s1 ⟨c,e,q1⟩=>?_⟩
 subst e
 cases r1
 exact ⟨c,rfl,F1,ρ1,Ls1,R,_,w1,q1,fun v2 H2 d2 ρ2 F2 Ls2 Ld2 r2 w2 s2 q2=>kk v2 H2 d2 ρ2 F2 Ls2 Ld2 r2 w2 (s1.trans s2) q2⟩
theorem Jy {t:dR} {k:Bool->bA} {Q:VK} (h:iI K (fun ρ Q=>t ρ fun c ρ'=>k c ρ' Q) σ H Q):mV K t σ H fun c H1=>iI K (k c) σ H1 Q:=by
 obtain ⟨F,ρ,Ls,R,Qd,w,q,kk⟩:=h
 exact ⟨F,ρ,Ls,R,_,w,q,fun c H1 ρ1 F1 Ls1 w1 s1 q1=>⟨F1,ρ1,Ls1,R,_,w1,q1,fun v2 H2 d2 ρ2 F2 Ls2 Ld2 r2 w2 s2 q2=>kk v2 H2 d2 ρ2 F2 Ls2 Ld2 r2 w2 (s1.trans s2) q2⟩⟩
theorem dw {op} (h:SE X a s):SE X (.BoolOp op [a] pos) s:=Mr h
theorem cO (ha:SE X a s) (hb:SE X (.BoolOp .And (b :: rest) pos) u):SE X (.BoolOp .And (a :: b :: rest) pos) (dG s u):=
 (Ml ha hb).wk fun σ H Q h=>vW (BP (k:=fun c ρ Q=>if c=true then u ρ Q else Q (.bl false) ρ) h) fun v H ⟨c,e,q⟩=>by
  refine ⟨c,e,?_⟩
  cases c with
  | true=>simpa using q
  | false=>exact jm (d:=.bl false) rfl q
theorem GJ (ha:SE X a s):SE X (.UnaryOp .Not a pos) (yp s):=
 (Mq ha).wk fun σ H Q h=>vW (BP (k:=fun c ρ Q=>Q (.bl (!c)) ρ) h) fun v H ⟨c,e,q⟩=>⟨c,e,jm (d:=.bl (!c)) rfl q⟩
theorem PX (hc:SB X c t) (ha:SE X a s) (hb:SE X b u):SE X (.IfExp c a b pos) (MT t s u):=
 (Gm hc ha hb).wk fun σ H Q h=>qT (Jy (k:=fun c ρ Q=>if c=true then s ρ Q else u ρ Q) h) fun c H q=>by
  cases c with
  | true=>simpa using q
  | false=>simpa using q
end
def namsSh (ρ : En):List AD->Bool
 | []=>true
 | .val _ :: as=>namsSh ρ as
 | .nam i :: as=>(match ρ[i]? with | some (some d)=>d.sh | _=>true)&&namsSh ρ as
section
variable {K:PySem.W.Frag} {F:Addr->Prop} {H:Hp} {σ : St} {ρ : En} {Ls:Nat->List Addr} {R:List Addr}
theorem jt {a:AD} {as:List AD} {es:List D} (e:bc ρ (a :: as)=some es):∃ d ds,a.get ρ = some d∧bc ρ as=some ds∧es=d :: ds:=by
 rw [bc] at e
 cases h1:a.get ρ with
 | none=>rw [h1] at e;simp at e
 | some d=>
  cases h2:bc ρ as with
  | none=>rw [h1,h2] at e;simp at e
  | some ds=>rw [h1,h2] at e;simp at e;exact ⟨d,ds,rfl,rfl,e.symm⟩
theorem Af {i:Nat} {d:D} (e:AD.get ρ (.nam i)=some d) : ρ[i]? = some (some d):=by
 have e:(ρ[i]?).getD none=some d:=e
 cases h : ρ[i]? with
 | none=>rw [h] at e;simp at e
 | some o=>rw [h] at e;simp at e;rw [e]
theorem RpA.all (w:WS K F H σ ρ Ls R):∀ {vs:List V} {as:List AD} {La:List Addr} {ds:List D},RpA K F H σ vs as La->bc ρ as=some ds->namsSh ρ as=true->Rps K F H vs ds La
 | _,_,_,_,.nil,e,_=>by cases e;exact .nil
 | _,_,_,_,.val r rs,e,h=>by
  obtain ⟨d,ds,e1,e2,rfl⟩:=jt e
  cases e1
  exact .cons r (RpA.all w rs e2 h)
 | _,_,_,_,.nam (i:=i) hi rs,e,h=>by
  obtain ⟨d,ds,e1,e2,rfl⟩:=jt e
  have e3:=Af e1
  rw [namsSh,e3,Bool.and_eq_true] at h
  obtain ⟨v,hv,r⟩:=w.sl i d e3
  rw [hi] at hv
  cases hv
  have r':=r;rw [r.sh_nil h.1] at r'
  exact .cons (L:=[]) r' (RpA.all w rs e2 h.2)
end
def eH (os:List Opd):bA:=fun ρ Q=>dq os ρ fun as ρ'=>∃ ds,bc ρ' as=some ds∧namsSh ρ' as=true∧ds.length<=sizeLine∧Q (.tup ds) ρ'
def fj (os:List Opd):bA:=fun ρ Q=>dq os ρ fun as ρ'=>∃ ds,bc ρ' as=some ds∧namsSh ρ' as=true∧ds.length<=sizeLine∧Q (.lst true ds) ρ'
section
variable {X:Cx} {es:List Expr} {os:List Opd} {pos:Pos}
theorem iw {x1} (h:SA X es os):SE X (.Tuple es x1 pos) (eH os):=
 (Mt h).wk fun σ H Q ⟨F,ρ,Ls,R,Qd,w,q,k⟩=>⟨F,ρ,Ls,R,_,w,q,fun vs H1 as ρ1 F1 Ls1 La r1 w1 s1 ⟨ds,e1,e2,e3,q1⟩=>by
  have rs:=r1.all w1 e1 e2
  refine ⟨by rw [rs.length];exact e3,fun p hp=>?_⟩
  exact k (.ref p) _ (.tup ds) ρ1 F1 Ls1 La (.tup cD (rs.laid hp)) (w1.laid hp) ((s1.trans (Step.laid hp)).more s1.srcD) q1⟩
theorem jk (h:SA X es os):SE X (.List es pos) (fj os):=
 (Mm h).wk fun σ H Q ⟨F,ρ,Ls,R,Qd,w,q,k⟩=>⟨F,ρ,Ls,R,_,w,q,fun vs H1 as ρ1 F1 Ls1 La r1 w1 s1 ⟨ds,e1,e2,e3,q1⟩=>by
  have rs:=r1.all w1 e1 e2
  refine ⟨by rw [rs.length];exact e3,fun p hp=>?_⟩
  refine k (.ref p) _ (.lst true ds) ρ1 F1 Ls1 (p :: La) (.own cD (rs.laid hp)) (w1.put hp) ((s1.trans (Step.laid hp)).more fun a ha=>?_) q1
  rcases List.mem_cons.mp ha with rfl | ha
  ·by_cases e:∃ j,a∈Ls j
   ·exact .inl e
   ·cases q:H a with
    | none=>exact .inr rfl
    | some o=>rw [s1.keep a o q fun i z=>e ⟨i,z⟩] at hp;cases hp
  ·exact s1.srcD a ha⟩
end
end L2
namespace L2
open PySem PySem.Spec PyProof.Rows
structure EndD where
 nx:En->Prop
 rt:D->En->Prop
 bk:En->Prop:=fun _=>False
 ct:En->Prop:=fun _=>False
abbrev cP:=En->EndD->Prop
def PN (K:PySem.W.Frag) (kp:Nat->Bool) (F:Addr->Prop) (H:Hp) (σ : St) (Ls:Nat->List Addr) (R:List Addr) (P:En->Prop) (P':St->Hp->Prop):Prop:=
 ∀ σ' H' ρ' F' Ls',WS K F' H' σ' ρ' Ls' R->Step F H Ls F' H' Ls' []->(∀ z,kp z=true -> σ'[z]? = σ[z]?)->P ρ'->P' σ' H'
def PR (K:PySem.W.Frag) (kp:Nat->Bool) (F:Addr->Prop) (H:Hp) (σ : St) (Ls:Nat->List Addr) (R:List Addr) (P:D->En->Prop) (P':VK):Prop:=
 ∀ v σ' H' d ρ' F' Ls' Ld,Rp K F' H' v d Ld->WS K F' H' σ' ρ' Ls' (Ld++R)->Step F H Ls F' H' Ls' Ld->(∀ z,kp z=true -> σ'[z]? = σ[z]?)->P d ρ'->P' v H'
structure PEnds (K:PySem.W.Frag) (kp:Nat->Bool) (F:Addr->Prop) (H:Hp) (σ : St) (Ls:Nat->List Addr) (R:List Addr) (E:EndD) (D:Ends):Prop where
 nx:PN K kp F H σ Ls R E.nx D.nx
 rt:PR K kp F H σ Ls R E.rt D.rt
 bk:PN K kp F H σ Ls R E.bk D.bk
 ct:PN K kp F H σ Ls R E.ct D.ct
def Nx (K:PySem.W.Frag) (kp:Nat->Bool) (s:cP):TS:=fun D σ H=>∃ F ρ Ls R E,WS K F H σ ρ Ls R∧s ρ E∧PEnds K kp F H σ Ls R E D
def SS (X:Cx) (kp:Nat->Bool) (st:Stmt) (s:cP):Prop:=PS X st (Nx X.K kp s)
def SL (X:Cx) (kp:Nat->Bool) (st:List Stmt) (s:cP):Prop:=PSs X st (Nx X.K kp s)
section
variable {K:PySem.W.Frag} {kp:Nat->Bool} {F F1:Addr->Prop} {H H1:Hp} {σ σ1:St} {Ls Ls1:Nat->List Addr} {R Ld:List Addr}
theorem PN.step {P:En->Prop} {P':St->Hp->Prop} (p:PN K kp F H σ Ls R P P') (s:Step F H Ls F1 H1 Ls1 Ld) (e:∀ z,kp z=true -> σ1[z]? = σ[z]?):PN K kp F1 H1 σ1 Ls1 R P P':=
 fun σ' H' ρ' F' Ls' w st e' q=>p σ' H' ρ' F' Ls' w (s.trans st) (fun z h=>(e' z h).trans (e z h)) q
theorem PR.step {P:D->En->Prop} {P':VK} (p:PR K kp F H σ Ls R P P') (s:Step F H Ls F1 H1 Ls1 Ld) (e:∀ z,kp z=true -> σ1[z]? = σ[z]?):PR K kp F1 H1 σ1 Ls1 R P P':=
 fun v σ' H' d ρ' F' Ls' Ld r w st e' q=>p v σ' H' d ρ' F' Ls' Ld r w (s.trans st) (fun z h=>(e' z h).trans (e z h)) q
theorem PEnds.step {E:EndD} {D:Ends} (p:PEnds K kp F H σ Ls R E D) (s:Step F H Ls F1 H1 Ls1 Ld) (e:∀ z,kp z=true -> σ1[z]? = σ[z]?):PEnds K kp F1 H1 σ1 Ls1 R E D:=
 ⟨p.nx.step s e,p.rt.step s e,p.bk.step s e,p.ct.step s e⟩
end
def bF:cP:=fun ρ E=>E.nx ρ
def aD (s u:cP):cP:=fun ρ E=>s ρ { E with nx:=fun ρ'=>u ρ' E }
section
variable {X:Cx} {kp:Nat->Bool} {st:Stmt} {rest:List Stmt} {s u:cP} {pos:Pos}
theorem bN:SL X kp [] bF:=Jb.wk fun D σ H ⟨F,ρ,Ls,R,E,w,q,p⟩=>p.nx σ H ρ F Ls w Step.refl (fun _ _=>rfl) q
theorem az (h1:SS X kp st s) (h2:SL X kp rest u):SL X kp (st :: rest) (aD s u):=
 (Gw h1 h2).wk fun D σ H ⟨F,ρ,Ls,R,E,w,q,p⟩=>⟨F,ρ,Ls,R,_,w,q,
  ⟨fun σ' H' ρ' F' Ls' w' s' e' q'=>⟨F',ρ',Ls',R,E,w',q',p.step s' e'⟩,p.rt,p.bk,p.ct⟩⟩
theorem aB (h1:SS X kp st s):SL X kp [st] s:=Jc h1
def MP:cP:=fun ρ E=>E.bk ρ
def PK:cP:=fun ρ E=>E.ct ρ
def zE:cP:=fun _ _=>False
def sIf (t:dR) (s u:cP):cP:=fun ρ E=>t ρ fun b ρ'=>if b=true then s ρ' E else u ρ' E
theorem cB {c:Expr} {a b:List Stmt} {t:dR} (hc:SB X c t) (ha:SL X kp a s) (hb:SL X kp b u):SS X kp (.If c a b pos) (sIf t s u):=
 (OD hc ha hb).wk fun D σ H ⟨F,ρ,Ls,R,E,w,q,p⟩=>⟨F,ρ,Ls,R,_,w,q,fun b H1 ρ1 F1 Ls1 w1 s1 q1=>by
  cases b with
  | true=>rw [if_pos rfl] at q1 ⊢;exact ⟨F1,ρ1,Ls1,R,E,w1,q1,p.step s1 fun _ _=>rfl⟩
  | false=>rw [if_neg Bool.false_ne_true] at q1 ⊢;exact ⟨F1,ρ1,Ls1,R,E,w1,q1,p.step s1 fun _ _=>rfl⟩⟩
def jW (e:bA):cP:=fun ρ E=>e ρ fun _ ρ'=>E.nx ρ'
theorem oF {e:Expr} {se:bA} (he:SE X e se) (hs:swapsWith e none pos.line X.env=pure false:=by rfl):SS X kp (.Expr e pos) (jW se):=
 (Ja he hs).wk fun D σ H ⟨F,ρ,Ls,R,E,w,q,p⟩=>⟨F,ρ,Ls,R,_,w,q,fun v H1 d ρ1 F1 Ls1 Ld r1 w1 s1 q1=>
  p.nx σ H1 ρ1 F1 Ls1 (w1.less (List.sublist_append_right _ _)) (s1.more fun a h=>absurd h (by simp)) (fun _ _=>rfl) q1⟩
def bI (e:bA):cP:=fun ρ E=>e ρ fun d ρ'=>E.rt d ρ'
theorem aN {e:Expr} {se:bA} (he:SE X e se):SS X kp (.Return (some e) pos) (bI se):=
 (Gv he).wk fun D σ H ⟨F,ρ,Ls,R,E,w,q,p⟩=>⟨F,ρ,Ls,R,_,w,q,fun v H1 d ρ1 F1 Ls1 Ld r1 w1 s1 q1=>p.rt v σ H1 d ρ1 F1 Ls1 Ld r1 w1 s1 (fun _ _=>rfl) q1⟩
def PQ:cP:=fun ρ E=>E.rt .non ρ
end
def putL (n:Nat) (Ls:Nat->List Addr) (i:Nat) (L:List Addr):Nat->List Addr:=if i<n then jo Ls i L else Ls
section
variable {K:PySem.W.Frag} {F:Addr->Prop} {H:Hp} {σ : St} {ρ : En} {Ls:Nat->List Addr} {R Ld:List Addr}
theorem WS.set {i:Nat} {v:V} {d:D} (w:WS K F H σ ρ Ls (Ld++R)) (r:Rp K F H v d Ld):WS K F H (σ.set i (some v)) (ρ.set i (some d)) (putL ρ.length Ls i Ld) R:=by
 unfold putL
 by_cases hi:i < ρ.length
 ·rw [if_pos hi]
  have hR:=List.nodup_append.mp w.rd
  exact {
   len:=by rw [List.length_set,List.length_set];exact w.len
   sl:=fun j d' e'=>by
    by_cases h:j=i
    ·subst h
     rw [List.getElem?_set_self hi] at e'
     cases e'
     exact ⟨v,by rw [List.getElem?_set_self (by rw [← w.len];exact hi)],by rw [aM];exact r⟩
    ·rw [List.getElem?_set_ne (Ne.symm h)] at e'
     obtain ⟨u,h1,h2⟩:=w.sl j d' e'
     exact ⟨u,by rw [List.getElem?_set_ne (Ne.symm h)];exact h1,by rw [aX h];exact h2⟩
   em:=fun j h=>by
    by_cases hj:j=i
    ·subst hj
     exact absurd (List.getElem?_set_self hi) (h d)
    ·rw [aX hj]
     exact w.em j fun d' z=>h d' (by rw [List.getElem?_set_ne (Ne.symm hj)];exact z)
   nd:=fun j=>by
    by_cases hj:j=i
    ·rw [hj,aM];exact hR.1
    ·rw [aX hj];exact w.nd j
   dj:=fun j k a h1 h2=>by
    by_cases hj:j=i
    ·by_cases hk:k=i
     ·rw [hj,hk]
     ·rw [hj,aM] at h1;rw [aX hk] at h2
      exact absurd (List.mem_append_left _ h1) (w.rj k a h2)
    ·by_cases hk:k=i
     ·rw [hk,aM] at h2;rw [aX hj] at h1
      exact absurd (List.mem_append_left _ h2) (w.rj j a h1)
     ·rw [aX hj] at h1;rw [aX hk] at h2;exact w.dj j k a h1 h2
   rd:=hR.2.1
   rj:=fun j a h z=>by
    by_cases hj:j=i
    ·rw [hj,aM] at h;exact hR.2.2 a h a z rfl
    ·rw [aX hj] at h;exact w.rj j a h (List.mem_append_right _ z)
   nf:=fun j a h=>by
    by_cases hj:j=i
    ·rw [hj,aM] at h;exact w.nr a (List.mem_append_left _ h)
    ·rw [aX hj] at h;exact w.nf j a h
   nr:=fun a z=>w.nr a (List.mem_append_right _ z)
   tr:=fun a z=>w.tr a (List.mem_append_right _ z)
   ft:=w.ft }
 ·rw [if_neg hi,List.set_eq_of_length_le (by rw [← w.len];omega),List.set_eq_of_length_le (by omega)]
  exact w.less (List.sublist_append_right _ _)
theorem yj {n i:Nat} {a:Addr} {j:Nat} (h:a∈putL n Ls i Ld j):a∈Ld∨a∈Ls j:=by
 unfold putL at h
 split at h
 ·by_cases hj:j=i
  ·rw [hj,aM] at h;exact .inl h
  ·rw [aX hj] at h;exact .inr h
 ·exact .inr h
theorem Step.put {F1:Addr->Prop} {H1:Hp} {Ls1:Nat->List Addr} {n i:Nat} (s:Step F H Ls F1 H1 Ls1 Ld):Step F H Ls F1 H1 (putL n Ls1 i Ld) []:=
 ⟨s.keep,s.mono,fun j a h=>by
  rcases yj h with h | h
  ·exact s.srcD a h
  ·exact s.src j a h,fun a h=>absurd h (by simp)⟩
theorem Ng {kp:Nat->Bool} {σ : St} {i:Nat} {o:Option V} (h:kp i=false):∀ z,kp z=true->(σ.set i o)[z]? = σ[z]?:=fun z hz=>List.getElem?_set_ne fun e=>by subst e;rw [h] at hz;cases hz
end
def bD (i:Nat) (e:bA):cP:=fun ρ E=>e ρ fun d ρ'=>E.nx (ρ'.set i (some d))
def Hm (kp:Nat->Bool) (i:Nat):Prop:=kp i=false
section
variable {X:Cx} {kp:Nat->Bool} {pos:Pos}
theorem bC {i:Nat} {x:Str} {e:Expr} {se:bA} {pos':Pos} (hf0:Hm kp i) (hN:X.N.Nodup) (hi:X.N[i]? = some x) (hx:Loc X.env.scope x) (he:SE X e se) (hs:swapsWith e (some (.Name x pos')) pos.line X.env=pure false:=by rfl)
  (hf:X.fn x=true∨X.env.scope.names.lookup x=some .local:=by first | exact .inl rfl | exact .inr rfl | assumption):SS X kp (.Assign [.Name x pos'] e pos) (bD i se):=
 (My hN hi hx he hs hf).wk fun D σ H ⟨F,ρ,Ls,R,E,w,q,p⟩=>⟨F,ρ,Ls,R,_,w,q,fun v H1 d ρ1 F1 Ls1 Ld r1 w1 s1 q1=>
  p.nx _ H1 _ F1 _ (w1.set r1) s1.put (Ng hf0) q1⟩
end
abbrev fc:=D->En->(En->Prop)->Prop
def Hd (K:PySem.W.Frag) (kp:Nat->Bool) (g:fc):TG:=fun v σ H Q=>∃ F ρ Ls R Qd d Ld,WS K F H σ ρ Ls (Ld++R)∧Rp K F H v d Ld∧g d ρ Qd ∧
 ∀ σ' ρ' Ls',WS K F H σ' ρ' Ls' R->(∀ i a,a∈Ls' i->a∈Ld ∨ ∃ j,a∈Ls j)->(∀ z,kp z=true -> σ'[z]? = σ[z]?) -> σ'.length = σ.length->Qd ρ'->Q σ' H
def SG (X:Cx) (kp:Nat->Bool) (t:Expr) (g:fc):Prop:=PG X t (Hd X.K kp g)
def gN (i:Nat):fc:=fun d ρ Q=>Q (ρ.set i (some d))
def gGo:List fc->List D->En->(En->Prop)->Prop
 | [],[],ρ,Q=>Q ρ
 | g :: gs,d :: ds,ρ,Q=>g d ρ fun ρ'=>gGo gs ds ρ' Q
 | _,_,_,_=>False
def gT (gs:List fc):fc:=fun d ρ Q=>∃ ds,d = .tup ds∧gGo gs ds ρ Q
def Qt (K:PySem.W.Frag) (kp:Nat->Bool) (gs:List fc):TGs:=fun vs σ H Q=>∃ F ρ Ls R Qd ds Ld,WS K F H σ ρ Ls (Ld++R)∧Rps K F H vs ds Ld∧gGo gs ds ρ Qd ∧
 ∀ σ' ρ' Ls',WS K F H σ' ρ' Ls' R->(∀ i a,a∈Ls' i->a∈Ld ∨ ∃ j,a∈Ls j)->(∀ z,kp z=true -> σ'[z]? = σ[z]?) -> σ'.length = σ.length->Qd ρ'->Q σ' H
def SGs (X:Cx) (kp:Nat->Bool) (ts:List Expr) (gs:List fc):Prop:=PGs X ts (Qt X.K kp gs)
theorem PG.wk {X:Cx} {e:Expr} {t t':TG} (h:PG X e t) (k:∀ v σ H Q,t' v σ H Q->t v σ H Q):PG X e t':=fun pins s σ H v u Q I r q=>h pins s σ H v u Q I r (k v σ H Q q)
theorem PGs.wk {X:Cx} {e:List Expr} {t t':TGs} (h:PGs X e t) (k:∀ v σ H Q,t' v σ H Q->t v σ H Q):PGs X e t':=fun pins s σ H v u Q I r q=>h pins s σ H v u Q I r (k v σ H Q q)
section
variable {X:Cx} {kp:Nat->Bool} {pos:Pos}
theorem aL {i:Nat} {x:Str} (hf0:Hm kp i) (hN:X.N.Nodup) (hi:X.N[i]? = some x) (hx:Loc X.env.scope x) (hf:X.fn x=true∨X.env.scope.names.lookup x=some .local:=by first | exact .inl rfl | exact .inr rfl | assumption):SG X kp (.Name x pos) (gN i):=
 (Iz hN hi hx hf).wk fun v σ H Q ⟨F,ρ,Ls,R,Qd,d,Ld,w,r,q,k⟩=>k _ _ _ (w.set r) (fun j a h=>(yj h).elim .inl fun h=>.inr ⟨j,h⟩) (Ng hf0) (by simp) q
theorem jB:SGs X kp [] []:=IK.wk fun vs σ H Q ⟨F,ρ,Ls,R,Qd,ds,Ld,w,r,q,k⟩=>by
 cases r with
 | nil=>exact ⟨rfl,k σ ρ Ls w (fun i a h=>.inr ⟨i,h⟩) (fun _ _=>rfl) rfl q⟩
 | cons _ _=>exact q.elim
theorem bz {e:Expr} {es:List Expr} {g:fc} {gs:List fc} (h1:SG X kp e g) (h2:SGs X kp es gs)
  (hs:(assignEach (e :: es) X.env).map (·.2)=assign e X.env :: (assignEach es X.env).map (·.2):=by rfl):SGs X kp (e :: es) (g :: gs):=
 (Gp h1 h2 hs).wk fun vs σ H Q ⟨F,ρ,Ls,R,Qd,ds,Ld,w,r,q,k⟩=>by
  cases r with
  | nil=>exact q.elim
  | @cons v vs d ds L M r rs=>
   refine ⟨v,vs,rfl,F,ρ,Ls,M++R,_,d,L,by rw [← List.append_assoc];exact w,r,q,fun σ1 ρ1 Ls1 w1 s1 e1 l1 q1=>?_⟩
   refine ⟨F,ρ1,Ls1,R,Qd,ds,M,w1,rs,q1,fun σ2 ρ2 Ls2 w2 s2 e2 l2 q2=>k σ2 ρ2 Ls2 w2 (fun i a h=>?_) (fun z h=>(e2 z h).trans (e1 z h)) (l2.trans l1) q2⟩
   rcases s2 i a h with h | ⟨j,h⟩
   ·exact .inl (List.mem_append_right _ h)
   ·rcases s1 j a h with h | h
    ·exact .inl (List.mem_append_left _ h)
    ·exact .inr h
theorem Ad:∀ {gs:List fc} {ds:List D} {ρ : En} {Q:En->Prop},gGo gs ds ρ Q->(∀ g∈gs,∀ d ρ Q,g d ρ Q -> ∃ ρ',Q ρ')->ds.length=gs.length
 | [],[],_,_,_,_=>rfl
 | [],_ :: _,_,_,h,_=>h.elim
 | _ :: _,[],_,_,h,_=>h.elim
 | g :: gs,d :: ds,ρ,Q,h,hg=>by
  obtain ⟨ρ',h⟩:=hg g List.mem_cons_self d ρ _ h
  rw [List.length_cons,List.length_cons,Ad h fun g hg'=>hg g (List.mem_cons_of_mem _ hg')]
theorem lM {es:List Expr} {k:Nat} {gs:List fc} (hc:X.calm=true) (h:SGs X kp es gs) (hg:∀ g∈gs,∀ d ρ Q,g d ρ Q -> ∃ ρ',Q ρ')
  (hn:(assignEach es X.env).length=gs.length:=by rfl) (hst:(assignEach es X.env).findIdx? (·.1)=none:=by rfl):SG X kp (.Tuple es k pos) (gT gs):=
 (Mv hc h hn hst).wk fun v σ H Q ⟨F,ρ,Ls,R,Qd,d,Ld,w,r,⟨ds,e,q⟩,k⟩=>by
  subst e
  obtain ⟨a,vs,rfl,ha,ra⟩:=r.tup_at
  exact ⟨a,vs,rfl,ha,by rw [ra.length];exact Ad q hg,F,ρ,Ls,R,Qd,ds,Ld,w,ra,q,k⟩
def vN (g:fc) (e:bA):cP:=fun ρ E=>e ρ fun d ρ'=>g d ρ' E.nx
theorem mU {tg e:Expr} {se:bA} {g:fc} (he:SE X e se) (hg:SG X kp tg g) (hs:swapsWithSole [tg] e pos.line X.env=pure false:=by rfl) (hw:swappedStores [tg] e X.env=pure none:=by rfl)
  (h1:(assignEach [tg] X.env).map (·.2)=[assign tg X.env]:=by rfl):SS X kp (.Assign [tg] e pos) (vN g se):=
 (Gu he hg hs hw h1).wk fun D σ H ⟨F,ρ,Ls,R,E,w,q,p⟩=>⟨F,ρ,Ls,R,_,w,q,fun v H1 d ρ1 F1 Ls1 Ld r1 w1 s1 q1=>
  ⟨F1,ρ1,Ls1,R,_,d,Ld,w1,r1,q1,fun σ' ρ' Ls' w' s' e' _ q'=>p.nx σ' H1 ρ' F1 Ls' w' ⟨s1.keep,s1.mono,fun i a h=>(s' i a h).elim (s1.srcD a) fun ⟨j,h⟩=>s1.src j a h,fun a h=>absurd h (by simp)⟩ e' q'⟩⟩
end
def GD (t:dR) (b:cP):cP:=fun ρ E=>∃ I:Nat->En->Prop,(∃ m,I m ρ) ∧ ∀ m ρ,I m ρ -> t ρ fun c ρ'=>
 if c=true then b ρ' { E with nx:=fun ρ''=>∃ m',m'<m∧I m' ρ'',ct:=fun ρ''=>∃ m',m'<m∧I m' ρ'',bk:=E.nx } else E.nx ρ'
end L2
namespace L2
open PySem PySem.Spec PyProof.Rows
def Keeps (F:Addr->Prop) (H:Hp) (F2:Addr->Prop) (H2:Hp):Prop:=(∀ a,F a->F2 a) ∧ ∀ a o,H a=some o->(F a∨Still o)->H2 a=some o
section
variable {K:PySem.W.Frag} {F F1 F2:Addr->Prop} {H H1 H2:Hp} {σ : St} {ρ : En} {Ls Ls1:Nat->List Addr} {R Ld:List Addr}
theorem Keeps.refl:Keeps F H F H:=⟨fun _ h=>h,fun _ _ e _=>e⟩
theorem Keeps.trans (a:Keeps F H F1 H1) (b:Keeps F1 H1 F2 H2):Keeps F H F2 H2:=⟨fun x h=>b.1 x (a.1 x h),fun x o e h=>b.2 x o (a.2 x o e h) (h.imp (a.1 x) id)⟩
theorem Step.keeps (w:WS K F H σ ρ Ls R) (s:Step F H Ls F1 H1 Ls1 Ld):Keeps F H F1 H1:=⟨s.mono,fun a o e h=>s.keep a o e fun i z=>by
 rcases h with h | h
 ·exact w.nf i a z h
 ·obtain ⟨xs,q⟩:=w.own z
  rw [e] at q;cases q;exact absurd h OL.no⟩
theorem Keeps.laid {p:Addr} {o:HO} (hn:H p=none):Keeps F H F (upd H p o):=⟨fun _ h=>h,fun a u e _=>by rw [bG (bQ e hn)];exact e⟩
theorem Rp.keeps {v:V} {d:D} (r:Rp K F H v d []) (k:Keeps F H F1 H1):Rp K F1 H1 v d []:=r.mono k.1 (fun a o e h=>k.2 a o e (.inr h)) (fun a o f e=>k.2 a o e (.inl f)) fun a h=>absurd h (by simp)
theorem Rps.keeps {vs:List V} {ds:List D} (r:Rps K F H vs ds []) (k:Keeps F H F1 H1):Rps K F1 H1 vs ds []:=r.mono k.1 (fun a o e h=>k.2 a o e (.inr h)) (fun a o f e=>k.2 a o e (.inl f)) fun a h=>absurd h (by simp)
end
abbrev mZ:=En->(List D->En->Prop)->Prop
structure Wk (K:PySem.W.Frag) (F:Addr->Prop) (H:Hp) (J:It) (ds:List D):Prop where
 go:∀ i F2 H2,Keeps F H F2 H2->i<ds.length->J.go i H2
 yld:∀ i F2 H2 x H3 d,Keeps F H F2 H2->ds[i]? = some d->J.yld i H2 x H3->Rp K F2 H3 x d []∧(H3=H2 ∨ ∃ p xs,H2 p=none∧H3=upd H2 p (.tup xs))
 stop:∀ F2 H2,Keeps F H F2 H2->J.stop ds.length H2
 small:ds.length<=sizeLine
def Qx (K:PySem.W.Frag) (s:mZ):TI:=fun σ H Q=>∃ F ρ Ls R Qd,WS K F H σ ρ Ls R∧s ρ Qd ∧
 ∀ J H' ds ρ' F' Ls',WS K F' H' σ ρ' Ls' R->Step F H Ls F' H' Ls' []->Wk K F' H' J ds->Qd ds ρ'->Q J H'
def SI (X:Cx) (tg e:Expr) (s:mZ):Prop:=PI X tg e (Qx X.K s)
theorem PI.wk {X:Cx} {tg e:Expr} {t t':TI} (h:PI X tg e t) (k:∀ σ H Q,t' σ H Q->t σ H Q):PI X tg e t':=fun pins s σ H Q I q=>h pins s σ H Q I (k σ H Q q)
def jn (s:bA):mZ:=fun ρ Q=>s ρ fun d ρ'=>match d with
 | .lst _ ds=>ds.length<=sizeLine∧Q (D.fzs ds) ρ'
 | .tup ds=>ds.length<=sizeLine∧Q (D.fzs ds) ρ'
 | .scr ns=>ns.length<=sizeLine∧Q (ns.map D.int) ρ'
 | _=>False
section
variable {X:Cx} {tg:Expr} {K:PySem.W.Frag} {F F2:Addr->Prop} {H H2:Hp}
theorem Di {l:Expr} {tl:TE} (hl:PE X l tl):PI X tg l (fun σ H R=>tl σ H fun x H1=>∃ a,x = .ref a∧(((∃ xs,SqL X.K H1 a xs)∧R (Itl X.K a) H1)∨((∃ xs,SqT X.K H1 a xs)∧R (Itt X.K a) H1))):=by
 intro pins s σ H R I h
 refine thn (hl pins s σ H _ I h) fun v s1 ⟨x,H1,I1,r1,q1⟩=>?_
 obtain ⟨a,e,q⟩:=q1
 subst e
 cases r1
 rcases q with ⟨⟨xs,hq⟩,q⟩ | ⟨⟨xs,hq⟩,q⟩
 ·obtain ⟨its,rv,p,hz⟩:=I1.list hq
  refine wpAny_pyIter_list p.isList ?_
  refine ⟨s1.heap.objs.size,[s1.heap.objs.size],_,_,H1,rfl,I1.kept (t':=s1.toks) fun b o e=>Heap.get?_push_of_some _ e,Dw a _,⟨_,Heap.get?_push_size _ rfl,rfl,rfl⟩,fun b hb=>?_,q⟩
  have e:b=s1.heap.objs.size:=by simpa using hb
  subst e
  exact I1.fpOk (Nat.le_refl _) (I1.hok.fresh (Nat.le_refl _))
 ·obtain ⟨its,rv,p,hz⟩:=I1.tuple hq
  refine wpAny_pyIter_tuple (show s1.heap.IsTuple a its.toArray from p) ?_
  refine ⟨s1.heap.objs.size,[s1.heap.objs.size],_,_,H1,rfl,I1.kept (t':=s1.toks) fun b o e=>Heap.get?_push_of_some _ e,zM a _,⟨_,Heap.get?_push_size _ rfl,rfl,rfl⟩,fun b hb=>?_,q⟩
  have e:b=s1.heap.objs.size:=by simpa using hb
  subst e
  exact I1.fpOk (Nat.le_refl _) (I1.hok.fresh (Nat.le_refl _))
theorem Hj {J:It} {vs:List V} {ds:List D} (Sq:Hp->Prop) (h0:∀ F2 H2,Keeps F H F2 H2->Sq H2) (hr:Rps K F H vs ds []) (hz:ds.length<=sizeLine)
  (go:∀ i H2 v,Sq H2->vs[i]? = some v->J.go i H2) (yld:∀ i H2 x H3 v,Sq H2->vs[i]? = some v->J.yld i H2 x H3->H3=H2∧x=v) (stop:∀ H2,Sq H2->J.stop vs.length H2):Wk K F H J ds where
 go:=fun i F2 H2 k hi=>by
  obtain ⟨v,_,e,_⟩:=hr.get (List.getElem?_eq_getElem hi)
  exact go i H2 v (h0 F2 H2 k) e
 yld:=fun i F2 H2 x H3 d k e y=>by
  obtain ⟨v,M,e1,r,sl⟩:=hr.get e
  obtain ⟨rfl,rfl⟩:=yld i H2 x H3 v (h0 F2 H2 k) e1 y
  have:M=[]:=List.sublist_nil.mp sl
  subst this
  exact ⟨r.keeps k,.inl rfl⟩
 stop:=fun F2 H2 k=>by rw [← hr.length];exact stop H2 (h0 F2 H2 k)
 small:=hz
theorem Rps.ints:∀ ns:List Int,Rps K F H (ns.map V.int) (ns.map D.int) []
 | []=>.nil
 | n :: ns=>.cons (L:=[]) (M:=[]) (.int n) (Rps.ints ns)
theorem gn {e:Expr} {s:bA} (he:SE X e s):SI X tg e (jn s):=
 (Di he).wk fun σ H Q ⟨F,ρ,Ls,R,Qd,w,q,k⟩=>⟨F,ρ,Ls,R,_,w,q,fun v H1 d ρ1 F1 Ls1 Ld r1 w1 s1 q1=>by
  have w2:=w1.give
  have s2:=s1.trans (Step.give (M:=Ld))
  cases d with
  | non=>exact q1.elim
  | bl _=>exact q1.elim
  | int _=>exact q1.elim
  | str _=>exact q1.elim
  | ty _=>exact q1.elim
  | xc _ _=>exact q1.elim
  | fn _=>exact q1.elim
  | dct _ _ _=>exact q1.elim
  | lst o ds=>
   obtain ⟨hz,q1⟩:=q1
   obtain ⟨a,vs,M,rfl,ha,ra,hM⟩:=r1.lst_at
   have hF:(F1 a∨a∈Ld):=by
    cases r1 with
    | frz _ f _=>exact .inl f
    | own _ _=>exact .inr List.mem_cons_self
   have ra':=ra.freeze (F':=fun a=>F1 a∨a∈Ld) (fun _ h=>.inl h) fun b hb=>.inr (hM b hb)
   refine ⟨a,rfl,.inl ⟨⟨vs,.of ha⟩,k _ H1 _ ρ1 _ Ls1 w2 s2 (Hj (fun H2=>H2 a=some (.lst vs)) (fun F2 H2 k=>k.2 a _ ha (.inl hF)) ra' (by rw [D.fzs_eq,List.length_map];exact hz) ?_ ?_ ?_) q1⟩⟩
   ·exact fun i H2 v h e=>⟨vs,v,.of h,e⟩
   ·intro i H2 x H3 v h e y
    obtain ⟨rfl,y⟩:=y
    have:=y vs (.of h)
    rw [e] at this
    exact ⟨rfl,(Option.some.inj this).symm⟩
   ·exact fun H2 h=>⟨vs,.of h,Nat.le_refl _⟩
  | tup ds=>
   obtain ⟨hz,q1⟩:=q1
   obtain ⟨a,vs,rfl,ha,ra⟩:=r1.tup_at
   have ra':=ra.freeze (F':=fun a=>F1 a∨a∈Ld) (fun _ h=>.inl h) fun b hb=>.inr hb
   refine ⟨a,rfl,.inr ⟨⟨vs,ha⟩,k _ H1 _ ρ1 _ Ls1 w2 s2 (Hj (fun H2=>SqT X.K H2 a vs) (fun F2 H2 k=>ha.keep fun o e h=>k.2 a o e (.inr h)) ra' (by rw [D.fzs_eq,List.length_map];exact hz) ?_ ?_ ?_) q1⟩⟩
   ·exact fun i H2 v h e=>⟨vs,v,h,e⟩
   ·intro i H2 x H3 v h e y
    obtain ⟨rfl,y⟩:=y
    have:=y vs h
    rw [e] at this
    exact ⟨rfl,(Option.some.inj this).symm⟩
   ·exact fun H2 h=>⟨vs,h,Nat.le_refl _⟩
  | scr ns=>
   obtain ⟨hz,q1⟩:=q1
   cases r1 with
   | @scr a _ h=>
    refine ⟨a,rfl,.inl ⟨⟨_,h.sq⟩,k _ H1 _ ρ1 _ Ls1 w2 s2 (Hj (fun H2=>SqL X.K H2 a (ns.map V.int)) (fun F2 H2 k=>(h.keep fun o e h=>k.2 a o e (.inr h)).sq) (Rps.ints ns) (by rw [List.length_map];exact hz) ?_ ?_ ?_) q1⟩⟩
    ·exact fun i H2 v h e=>⟨_,v,h,e⟩
    ·intro i H2 x H3 v h e y
     obtain ⟨rfl,y⟩:=y
     have:=y _ h
     rw [e] at this
     exact ⟨rfl,(Option.some.inj this).symm⟩
    ·exact fun H2 h=>⟨_,h,Nat.le_refl _⟩⟩
def mQ (lo:Int) (n:Nat):List D:=(List.range n).map fun (i:Nat)=>D.int (lo+(i:Int))
def cG (o:Opd):mZ:=fun ρ Q=>dq [o] ρ fun as ρ'=>∃ j:Int,bc ρ' as=some [.int j]∧(-(2 ^ 62)<=j∧j<2 ^ 62∧j.toNat<=sizeLine)∧Q (mQ 0 j.toNat) ρ'
def nR (o o':Opd):mZ:=fun ρ Q=>dq [o,o'] ρ fun as ρ'=>∃ i j:Int,bc ρ' as=some [.int i,.int j]∧(-(2 ^ 62)<=i∧i<2 ^ 62 ∧ -(2 ^ 62)<=j∧j<2 ^ 62∧(j - i).toNat<=sizeLine)∧Q (mQ i (j - i).toNat) ρ'
theorem yH {lo:Int} {n:Nat} (hz:n<=sizeLine):Wk K F H (Itr lo n) (mQ lo n) where
 go:=fun i F2 H2 _ hi=>by show i<n;simpa [mQ] using hi
 yld:=fun i F2 H2 x H3 d _ e y=>by
  obtain ⟨rfl,rfl⟩:=y
  simp only [mQ,List.getElem?_map] at e
  obtain ⟨j,e1,rfl⟩:=Option.map_eq_some_iff.mp e
  obtain ⟨h1,h2⟩:=List.getElem?_eq_some_iff.mp e1
  simp only [List.getElem_range] at h2
  subst h2
  exact ⟨.int _,.inl rfl⟩
 stop:=fun F2 H2 _=>by show n<=_;simp [mQ]
 small:=by simpa [mQ] using hz
theorem fU {a:Expr} {o:Opd} {p pos:Pos} (hg:Gl X "range") (hm:X.mg "range" = none) (ha:SA X [a] [o]) (hs:starEach [a] X.env=[(false,eval a X.env)]:=by rfl):SI X tg (.Call (.Name "range" p) [a] [] pos) (cG o):=
 (Dj hg hm ha hs).wk fun σ H Q ⟨F,ρ,Ls,R,Qd,w,q,k⟩=>⟨F,ρ,Ls,R,_,w,q,fun vs H1 as ρ1 F1 Ls1 La r1 w1 s1 ⟨j,e,q0,q1⟩=>by
  obtain ⟨x,L,rfl,rx⟩:=(r1.at w1 e).one
  cases rx.isInt
  exact ⟨_,rfl,q0.1,q0.2.1,k _ H1 _ ρ1 F1 Ls1 (w1.less (List.sublist_append_right La R)) (s1.more (Ld2:=[]) fun a h=>absurd h (by simp)) (yH q0.2.2) q1⟩⟩
theorem Dt {a b:Expr} {o o':Opd} {p pos:Pos} (hg:Gl X "range") (hm:X.mg "range" = none) (ha:SA X [a,b] [o,o']) (hs:starEach [a,b] X.env=[(false,eval a X.env),(false,eval b X.env)]:=by rfl) (hs2:starEach [b] X.env=[(false,eval b X.env)]:=by rfl) :
  SI X tg (.Call (.Name "range" p) [a,b] [] pos) (nR o o'):=
 (Dk hg hm ha hs hs2).wk fun σ H Q ⟨F,ρ,Ls,R,Qd,w,q,k⟩=>⟨F,ρ,Ls,R,_,w,q,fun vs H1 as ρ1 F1 Ls1 La r1 w1 s1 ⟨i,j,e,q0,q1⟩=>by
  obtain ⟨x,y,L,M,rfl,rx,ry⟩:=(r1.at w1 e).two
  cases rx.isInt
  cases ry.isInt
  exact ⟨_,_,rfl,⟨q0.1,q0.2.1,q0.2.2.1,q0.2.2.2.1⟩,k _ H1 _ ρ1 F1 Ls1 (w1.less (List.sublist_append_right La R)) (s1.more (Ld2:=[]) fun a h=>absurd h (by simp)) (yH q0.2.2.2.2) q1⟩⟩
def QC (xs ys:List D):List D:=(xs.zip ys).map fun p=>D.tup [p.1,p.2]
def JR (s u:bA):mZ:=fun ρ Q=>dq [.val s,.val u] ρ fun as ρ2=>∃ o xs o' ys,as=[.val (.lst o xs),.val (.lst o' ys)]∧xs.length<=sizeLine∧Q (QC (D.fzs xs) (D.fzs ys)) ρ2
def Ep:Nat->List D->List D
 | _,[]=>[]
 | n,d :: ds=>.tup [.int n,d] :: Ep (n+1) ds
def Ey (s:bA):mZ:=fun ρ Q=>dq [.val s] ρ fun as ρ2=>∃ o xs,as=[.val (.lst o xs)]∧xs.length<=sizeLine∧Q (Ep 0 (D.fzs xs)) ρ2
end
def forL (g:fc) (b:cP):List D->En->EndD->Prop
 | [],ρ,E=>E.nx ρ
 | d :: ds,ρ,E=>g d ρ fun ρ1=>b ρ1 { E with nx:=fun ρ2=>forL g b ds ρ2 E,ct:=fun ρ2=>forL g b ds ρ2 E,bk:=E.nx }
def gU (i:mZ) (g:fc) (b:cP):cP:=fun ρ E=>i ρ fun ds ρ'=>forL g b ds ρ' E
theorem iG {X:Cx} {kp:Nat->Bool} {tg iter:Expr} {body:List Stmt} {si:mZ} {g:fc} {b:cP} {pos:Pos} (hp:PassesOwn (model X.prog X.w) X.A X.env X.xe) (hc:X.calm=true) (hi:SI X tg iter si) (hg:SG X kp tg g) (hb:SL X kp body b)
  (hs:∀ x,foldedSetIterable iter X.env x=pure x:=by intro _;rfl):SS X kp (.For tg iter body [] pos) (gU si g b):=
 (Mw hp hc hi hg hb hs).wk fun D σ H ⟨F,ρ,Ls,R,E,w,q,p⟩=>⟨F,ρ,Ls,R,_,w,q,fun J H1 ds ρ1 F1 Ls1 w1 s1 wk q1=>by
  refine ⟨fun i m σ' H'=>m=ds.length - i∧i<=ds.length ∧ ∃ F' ρ' Ls',WS X.K F' H' σ' ρ' Ls' R∧Step F H Ls F' H' Ls' []∧Keeps F1 H1 F' H'∧(∀ z,kp z=true -> σ'[z]? = σ[z]?)∧forL g b (ds.drop i) ρ' E,⟨ds.length,by simp,Nat.zero_le _,F1,ρ1,Ls1,w1,s1,Keeps.refl,fun _ _=>rfl,q1⟩,?_⟩
  rintro i m σ2 H2 ⟨rfl,hi,F2,ρ2,Ls2,w2,s2,k2,e2,q2⟩
  by_cases hlt:i<ds.length
  ·have hd:=List.getElem?_eq_getElem hlt
   rw [List.drop_eq_getElem_cons hlt] at q2
   refine .inr ⟨wk.go i F2 H2 k2 hlt,fun σ' H'=>∃ F' ρ' Ls',WS X.K F' H' σ' ρ' Ls' R∧Step F H Ls F' H' Ls' []∧Keeps F1 H1 F' H'∧(∀ z,kp z=true -> σ'[z]? = σ[z]?)∧forL g b (ds.drop (i+1)) ρ' E,
    fun σ' H' h=>⟨ds.length - (i+1),by omega,rfl,hlt,h⟩,fun x H3 y=>?_⟩
   obtain ⟨rx,hH⟩:=wk.yld i F2 H2 x H3 _ k2 hd y
   have w3:WS X.K F2 H3 σ2 ρ2 Ls2 R∧Step F2 H2 Ls2 F2 H3 Ls2 []∧Keeps F2 H2 F2 H3:=by
    rcases hH with rfl | ⟨p,xs,hn,rfl⟩
    ·exact ⟨w2,Step.refl,Keeps.refl⟩
    ·exact ⟨w2.laid hn,Step.laid hn,Keeps.laid hn⟩
   obtain ⟨w3,s3,k3⟩:=w3
   refine ⟨F2,ρ2,Ls2,R,_,_,[],w3,rx,q2,fun σ4 ρ4 Ls4 w4 src4 e4 _ q4=>?_⟩
   have s4:Step F H Ls F2 H3 Ls4 []:=(s2.trans s3).trans ⟨fun _ _ e _=>e,fun _ h=>h,fun j a h=>(src4 j a h).elim (fun h=>absurd h (by simp)) .inl,fun a h=>absurd h (by simp)⟩
   have e4':∀ z,kp z=true -> σ4[z]? = σ[z]?:=fun z h=>(e4 z h).trans (e2 z h)
   have p4:=p.step (σ1:=σ4) s4 e4'
   refine ⟨F2,ρ4,Ls4,R,_,w4,q4,⟨fun σ' H' ρ' F' Ls' w' s' e' q'=>?_,p4.rt,p4.nx,fun σ' H' ρ' F' Ls' w' s' e' q'=>?_⟩⟩
   ·exact ⟨F',ρ',Ls',w',s4.trans s',(k2.trans k3).trans (s'.keeps w4),fun z h=>(e' z h).trans (e4' z h),q'⟩
   ·exact ⟨F',ρ',Ls',w',s4.trans s',(k2.trans k3).trans (s'.keeps w4),fun z h=>(e' z h).trans (e4' z h),q'⟩
  ·have e:i=ds.length:=by omega
   subst e
   rw [List.drop_length] at q2
   exact .inl ⟨wk.stop F2 H2 k2,p.nx σ2 H2 ρ2 F2 Ls2 w2 s2 e2 q2⟩⟩
end L2
namespace L2
open PySem PySem.Spec PyProof.Rows
def cSt (nO:Nat) (fr:List Nat) (ρ : En):En:=List.replicate nO none++fr.map fun j=>(ρ[j]?).getD none
def wb:En->List Nat->En->En
 | ρ,j :: js,c :: cs=>wb (ρ.set j c) js cs
 | ρ,_,_=>ρ
def jO (g:fc) (t:dR) (el:bA):List D->En->(List D->En->Prop)->Prop
 | [],ρ,Q=>Q [] ρ
 | d :: ds,ρ,Q=>g d ρ fun ρ1=>t ρ1 fun b ρ2=>if b=true then el ρ2 fun y ρ3=>jO g t el ds ρ3 fun ys ρ4=>Q (y :: ys) ρ4 else jO g t el ds ρ2 Q
def gW (si:mZ) (nO:Nat) (fr:List Nat) (g:fc) (t:dR) (el:bA):bA:=fun ρ Q=>si ρ fun ds ρ1=>jO g t el ds (cSt nO fr ρ1) fun es ρc=>Q (.lst true es) (wb ρ1 fr (ρc.drop nO))
def jN:dR:=fun ρ Q=>Q true ρ
def SBs (X:Cx) (ifs:List Expr) (t:dR):Prop:=PTs X ifs (mV X.K t)
theorem PTs.wk {X:Cx} {e:List Expr} {t t':TT} (h:PTs X e t) (k:∀ σ H Q,t' σ H Q->t σ H Q):PTs X e t':=fun pins s σ H Q I q=>h pins s σ H Q I (k σ H Q q)
theorem fQ {X:Cx}:SBs X [] jN:=Je.wk fun σ H Q h=>qR h
theorem Hi:∀ {fr:List Nat} {ρ cs:En},fr.Nodup->cs.length=fr.length ->
  (wb ρ fr cs).length = ρ.length∧(∀ k j:Nat,fr[k]? = some j->j < ρ.length->(wb ρ fr cs)[j]? = cs[k]?) ∧ ∀ i:Nat,i ∉ fr->(wb ρ fr cs)[i]? = ρ[i]?
 | [],ρ,cs,_,_=>⟨by simp [wb],fun k j e=>by simp at e,fun i _=>by simp [wb]⟩
 | j :: js,ρ,[],_,e=>by simp at e
 | j :: js,ρ,c :: cs,nd,e=>by
  obtain ⟨h1,h2⟩:=List.nodup_cons.mp nd
  obtain ⟨a1,a2,a3⟩:=Hi (fr:=js) (ρ:=ρ.set j c) (cs:=cs) h2 (by simpa using e)
  refine ⟨by simp only [wb];rw [a1,List.length_set],fun k i hk hi=>?_,fun i hi=>?_⟩
  ·cases k with
   | zero=>
    simp at hk
    subst hk
    simp only [wb]
    rw [a3 j h1,List.getElem?_set_self hi];simp
   | succ k=>
    simp only [wb]
    rw [a2 k i (by simpa using hk) (by rw [List.length_set];exact hi)];simp
  ·simp only [wb]
   rw [a3 i fun z=>hi (List.mem_cons_of_mem _ z),List.getElem?_set_ne fun z=>hi (by rw [z];exact List.mem_cons_self)]
def Lc (nO:Nat) (fr:List Nat) (Ls:Nat->List Addr):Nat->List Addr:=fun z=>if nO<=z then (match fr[z - nO]? with | some j=>Ls j | none=>[]) else []
theorem qX {nO:Nat} {fr:List Nat} {Ls:Nat->List Addr} {z:Nat} {a:Addr} (h:a∈Lc nO fr Ls z):∃ j,nO<=z∧fr[z - nO]? = some j∧a∈Ls j:=by
 unfold Lc at h
 by_cases hz:nO<=z
 ·rw [if_pos hz] at h
  cases e:fr[z - nO]? with
  | none=>rw [e] at h;simp at h
  | some j=>rw [e] at h;exact ⟨j,hz,rfl,h⟩
 ·rw [if_neg hz] at h;simp at h
theorem Oa {nO:Nat} {fr:List Nat} {Ls:Nat->List Addr} {k j:Nat} (h:fr[k]? = some j):Lc nO fr Ls (nO+k)=Ls j:=by
 unfold Lc
 rw [if_pos (Nat.le_add_right _ _),Nat.add_sub_cancel_left,h]
def jy (n:Nat) (fr:List Nat) (Ls:Nat->List Addr):List Addr:=((List.range n).filter fun i=>decide (i ∉ fr)).flatMap Ls
theorem km {Ls:Nat->List Addr} (h1:∀ i,(Ls i).Nodup) (h2:∀ i j a,a∈Ls i->a∈Ls j->i=j):∀ {is:List Nat},is.Nodup->(is.flatMap Ls).Nodup
 | [],_=>by simp
 | i :: is,nd=>by
  obtain ⟨a,b⟩:=List.nodup_cons.mp nd
  rw [List.flatMap_cons,List.nodup_append]
  refine ⟨h1 i,km h1 h2 b,fun x hx y hy e=>?_⟩
  subst e
  obtain ⟨j,hj,hm⟩:=List.mem_flatMap.mp hy
  rw [h2 i j x hx hm] at a
  exact a hj
theorem cM {n:Nat} {fr:List Nat} {Ls:Nat->List Addr} {a:Addr}:a∈jy n fr Ls ↔ ∃ i,i<n∧i ∉ fr∧a∈Ls i:=by
 unfold jy
 rw [List.mem_flatMap]
 constructor
 ·rintro ⟨i,h1,h2⟩
  obtain ⟨h3,h4⟩:=List.mem_filter.mp h1
  exact ⟨i,List.mem_range.mp h3,of_decide_eq_true h4,h2⟩
 ·rintro ⟨i,h1,h2,h3⟩
  exact ⟨i,List.mem_filter.mpr ⟨List.mem_range.mpr h1,decide_eq_true h2⟩,h3⟩
section
variable {K:PySem.W.Frag} {F:Addr->Prop} {H:Hp} {σ : St} {ρ : En} {Ls:Nat->List Addr} {R:List Addr} {own:List Str} {fr:List Nat}
theorem Hs {nO:Nat} {z:Nat} {d:D} (e:(cSt nO fr ρ)[z]? = some (some d)):∃ j,nO<=z∧fr[z - nO]? = some j ∧ ρ[j]? = some (some d):=by
 unfold cSt at e
 by_cases hz:nO<=z
 ·rw [List.getElem?_append_right (by simpa using hz),List.length_replicate,List.getElem?_map] at e
  obtain ⟨j,e1,e2⟩:=Option.map_eq_some_iff.mp e
  refine ⟨j,hz,e1,?_⟩
  cases h : ρ[j]? with
  | none=>rw [h] at e2;simp at e2
  | some o=>rw [h] at e2;simp at e2;rw [e2]
 ·rw [List.getElem?_append_left (by simpa using hz),List.getElem?_replicate] at e
  split at e <;> simp at e
theorem Ks {nO:Nat} {k j:Nat} (h:fr[k]? = some j):(cSt nO fr ρ)[nO+k]? = some ((ρ[j]?).getD none):=by
 unfold cSt
 rw [List.getElem?_append_right (by simp),List.length_replicate,Nat.add_sub_cancel_left,List.getElem?_map,h];rfl
theorem um {k j:Nat} (h:fr[k]? = some j):(iY own fr σ)[own.length+k]? = some ((σ[j]?).getD none):=by
 unfold iY
 rw [List.getElem?_append_right (by simp),List.length_map,Nat.add_sub_cancel_left,List.getElem?_map,h];rfl
theorem WS.block (w:WS K F H σ ρ Ls R) (nd:fr.Nodup):WS K F H (iY own fr σ) (cSt own.length fr ρ) (Lc own.length fr Ls) (jy ρ.length fr Ls++R) where
 len:=by simp [iY,cSt]
 sl:=fun z d e=>by
  obtain ⟨j,hz,e1,e2⟩:=Hs e
  obtain ⟨v,e3,r⟩:=w.sl j d e2
  have ez:z=own.length+(z - own.length):=by omega
  refine ⟨v,?_,?_⟩
  ·rw [ez,um e1,e3];rfl
  ·rw [ez,Oa e1];exact r
 em:=fun z h=>by
  unfold Lc
  by_cases hz:own.length<=z
  ·rw [if_pos hz]
   cases e:fr[z - own.length]? with
   | none=>rfl
   | some j=>
    refine w.em j fun d e2=>h d ?_
    have ez:z=own.length+(z - own.length):=by omega
    rw [ez,Ks e,e2];rfl
  ·rw [if_neg hz]
 nd:=fun z=>by
  unfold Lc
  by_cases hz:own.length<=z
  ·rw [if_pos hz]
   cases e:fr[z - own.length]? with
   | none=>exact List.nodup_nil
   | some j=>exact w.nd j
  ·rw [if_neg hz];exact List.nodup_nil
 dj:=fun z z' a h h'=>by
  obtain ⟨j,hz,e,m⟩:=qX h
  obtain ⟨j',hz',e',m'⟩:=qX h'
  have:=w.dj j j' a m m'
  subst this
  obtain ⟨l1,g1⟩:=List.getElem?_eq_some_iff.mp e
  obtain ⟨l2,g2⟩:=List.getElem?_eq_some_iff.mp e'
  have:=(List.getElem_inj nd).mp (g1.trans g2.symm)
  omega
 rd:=by
  rw [List.nodup_append]
  refine ⟨km w.nd w.dj (List.nodup_range.filter _),w.rd,fun a ha b hb e=>?_⟩
  subst e
  obtain ⟨i,_,_,hi⟩:=cM.mp ha
  exact w.rj i a hi hb
 rj:=fun z a h m=>by
  obtain ⟨j,hz,e,mj⟩:=qX h
  rcases List.mem_append.mp m with m | m
  ·obtain ⟨i,_,hi,mi⟩:=cM.mp m
   rw [w.dj i j a mi mj] at hi
   exact hi (List.mem_of_getElem? e)
  ·exact w.rj j a mj m
 nf:=fun z a h=>by
  obtain ⟨j,hz,e,mj⟩:=qX h
  exact w.nf j a mj
 nr:=fun a m=>by
  rcases List.mem_append.mp m with m | m
  ·obtain ⟨i,_,hi,mi⟩:=cM.mp m
   exact w.nf i a mi
  ·exact w.nr a m
 tr:=fun a m=>by
  rcases List.mem_append.mp m with m | m
  ·obtain ⟨i,_,hi,mi⟩:=cM.mp m
   exact w.own mi
  ·exact w.tr a m
 ft:=w.ft
def Lb (nO:Nat) (fr:List Nat) (Ls Lsc:Nat->List Addr):Nat->List Addr:=fun i=>match fr.findIdx? (· == i) with | some k=>Lsc (nO+k) | none=>Ls i
theorem rH {i k:Nat} (h:fr.findIdx? (· == i)=some k):fr[k]? = some i:=by
 obtain ⟨hk,e,_⟩:=List.findIdx?_eq_some_iff_getElem.mp h
 have:=beq_iff_eq.mp e
 rw [List.getElem?_eq_getElem hk,this]
theorem xm {i:Nat} (h:fr.findIdx? (· == i)=none):i ∉ fr:=fun m=>by
 have:=List.findIdx?_eq_none_iff.mp h i m
 simp at this
theorem WS.unblock {F':Addr->Prop} {H':Hp} {σc:St} {ρc:En} {Lsc:Nat->List Addr} {Le:List Addr} (w:WS K F H σ ρ Ls R) (nd:fr.Nodup) (hfr:∀ j∈fr,j < ρ.length)
  (w':WS K F' H' σc ρc Lsc (Le++(jy ρ.length fr Ls++R))) (s:Step F H (Lc own.length fr Ls) F' H' Lsc Le) (hσ : ∀ z,own.length<=z -> σc[z]? = (iY own fr σ)[z]?) (hl : ρc.length=own.length+fr.length) :
  WS K F' H' σ (wb ρ fr (ρc.drop own.length)) (Lb own.length fr Ls Lsc) (Le++R)∧Step F H Ls F' H' (Lb own.length fr Ls Lsc) Le:=by
 have hcs:(ρc.drop own.length).length=fr.length:=by rw [List.length_drop];omega
 obtain ⟨g1,g2,g3⟩:=Hi (ρ:=ρ) nd hcs
 have wc:=w.block (own:=own) nd
 have lb:∀ {i:Nat} {a:Addr},a∈Lb own.length fr Ls Lsc i->(∃ k,fr[k]? = some i∧a∈Lsc (own.length+k))∨(i ∉ fr∧a∈Ls i):=fun {i a} h=>by
  unfold Lb at h
  cases e:fr.findIdx? (· == i) with
  | some k=>rw [e] at h;exact .inl ⟨k,rH e,h⟩
  | none=>rw [e] at h;exact .inr ⟨xm e,h⟩
 have lb1:∀ {i k:Nat},fr[k]? = some i->Lb own.length fr Ls Lsc i=Lsc (own.length+k):=fun {i k} h=>by
  unfold Lb
  cases e:fr.findIdx? (· == i) with
  | some k'=>
   obtain ⟨l1,q1⟩:=List.getElem?_eq_some_iff.mp (rH e)
   obtain ⟨l2,q2⟩:=List.getElem?_eq_some_iff.mp h
   rw [(List.getElem_inj nd).mp (q1.trans q2.symm)]
  | none=>exact absurd (List.mem_of_getElem? h) (xm e)
 have lb2:∀ {i:Nat},i ∉ fr->Lb own.length fr Ls Lsc i=Ls i:=fun {i} h=>by
  unfold Lb
  cases e:fr.findIdx? (· == i) with
  | some k=>exact absurd (List.mem_of_getElem? (rH e)) h
  | none=>rfl
 have inR:∀ {i:Nat} {a:Addr},i ∉ fr->a∈Ls i->a∈jy ρ.length fr Ls:=fun {i a} h m=>cM.mpr ⟨i,by
  by_cases hi:i < ρ.length
  ·exact hi
  ·rw [w.em i fun d e=>by rw [List.getElem?_eq_none (by omega)] at e;cases e] at m;simp at m,h,m⟩
 refine ⟨?_,⟨fun a o e n=>s.keep a o e fun z m=>?_,s.mono,fun i a m=>?_,fun a m=>?_⟩⟩
 ·have wR:=w'.less (R':=Le++R) ((List.Sublist.refl Le).append (List.sublist_append_right _ _))
  exact {
   len:=g1.trans w.len
   sl:=fun i d e=>by
    by_cases hi:i∈fr
    ·obtain ⟨k,hk⟩:=List.getElem?_of_mem hi
     rw [g2 k i hk (hfr i hi),List.getElem?_drop] at e
     obtain ⟨v,h1,h2⟩:=w'.sl _ d e
     refine ⟨v,?_,by rw [lb1 hk];exact h2⟩
     rw [hσ _ (Nat.le_add_right _ _),um hk] at h1
     cases h : σ[i]? with
     | none=>rw [h] at h1;simp at h1
     | some o=>rw [h] at h1;simp at h1;rw [h1]
    ·rw [g3 i hi] at e
     obtain ⟨v,h1,h2⟩:=w.sl i d e
     exact ⟨v,h1,by rw [lb2 hi];exact h2.step wc s fun a ha=>List.mem_append_left _ (inR hi ha)⟩
   em:=fun i h=>by
    by_cases hi:i∈fr
    ·obtain ⟨k,hk⟩:=List.getElem?_of_mem hi
     rw [lb1 hk]
     exact w'.em _ fun d e=>h d (by rw [g2 k i hk (hfr i hi),List.getElem?_drop];exact e)
    ·rw [lb2 hi]
     exact w.em i fun d e=>h d (by rw [g3 i hi];exact e)
   nd:=fun i=>by
    by_cases hi:i∈fr
    ·obtain ⟨k,hk⟩:=List.getElem?_of_mem hi
     rw [lb1 hk];exact w'.nd _
    ·rw [lb2 hi];exact w.nd i
   dj:=fun i j a h1 h2=>by
    rcases lb h1 with ⟨k,hk,m⟩ | ⟨hi,m⟩
    ·rcases lb h2 with ⟨k',hk',m'⟩ | ⟨hj,m'⟩
     ·have:=w'.dj _ _ a m m'
      have:k=k':=by omega
      subst this
      rw [hk] at hk'
      exact Option.some.inj hk'
     ·exact absurd (List.mem_append_right _ (List.mem_append_left _ (inR hj m'))) (w'.rj _ a m)
    ·rcases lb h2 with ⟨k',hk',m'⟩ | ⟨hj,m'⟩
     ·exact absurd (List.mem_append_right _ (List.mem_append_left _ (inR hi m))) (w'.rj _ a m')
     ·exact w.dj i j a m m'
   rd:=wR.rd
   rj:=fun i a h z=>by
    rcases lb h with ⟨k,hk,m⟩ | ⟨hi,m⟩
    ·exact wR.rj _ a m z
    ·rcases List.mem_append.mp z with z | z
     ·exact (List.nodup_append.mp w'.rd).2.2 a z a (List.mem_append_left _ (inR hi m)) rfl
     ·exact w.rj i a m z
   nf:=fun i a h=>by
    rcases lb h with ⟨k,hk,m⟩ | ⟨hi,m⟩
    ·exact w'.nf _ a m
    ·exact w'.nr a (List.mem_append_right _ (List.mem_append_left _ (inR hi m)))
   nr:=wR.nr
   tr:=wR.tr
   ft:=wR.ft }
 ·obtain ⟨j,_,_,mj⟩:=qX m
  exact n j mj
 ·rcases lb m with ⟨k,hk,m⟩ | ⟨hi,m⟩
  ·rcases s.src _ a m with ⟨j,h⟩ | h
   ·obtain ⟨j',_,_,mj⟩:=qX h
    exact .inl ⟨j',mj⟩
   ·exact .inr h
  ·exact .inl ⟨i,m⟩
 ·rcases s.srcD a m with ⟨j,h⟩ | h
  ·obtain ⟨j',_,_,mj⟩:=qX h
   exact .inl ⟨j',mj⟩
  ·exact .inr h
end
def kpC (nO:Nat):Nat->Bool:=fun z=>decide (nO<=z)
theorem Kv {K:PySem.W.Frag} {F:Addr->Prop} {H:Hp} {σ : St} {ρ : En} {Ls:Nat->List Addr} {R:List Addr} {own:List Str} {fr:List Nat} {J:It} {ds:List D} {g:fc} {t:dR} {el:bA} {P:List D->En->Prop} {Q:VK}
  (w:WS K F H σ ρ Ls R) (nd:fr.Nodup) (hfr:∀ j∈fr,j < ρ.length) (wk:Wk K F H J ds) (q:jO g t el ds (cSt own.length fr ρ) P)
  (fin:∀ H' F' ys es ρc Ls' Le,Rps K F' H' ys es Le->WS K F' H' σ (wb ρ fr (ρc.drop own.length)) Ls' (Le++R)->Step F H Ls F' H' Ls' Le->P es ρc -> ∀ p,H' p=none->Q (.ref p) (upd H' p (.lst ys))) :
  JG J own fr σ (Hd K (kpC own.length) g) (mV K t) (iI K el) Q H:=by
 have wc:=w.block (own:=own) nd
 refine ⟨fun i m ys σ' H'=>m=ds.length - i∧i<=ds.length∧ys.length<=i ∧ ∃ F' ρc Lsc es Le,Rps K F' H' ys es Le∧WS K F' H' σ' ρc Lsc (Le++(jy ρ.length fr Ls++R))∧Step F H (Lc own.length fr Ls) F' H' Lsc Le∧Keeps F H F' H' ∧
  (∀ z,own.length<=z -> σ'[z]? = (iY own fr σ)[z]?) ∧ ρc.length=own.length+fr.length∧jO g t el (ds.drop i) ρc fun es' ρ'=>P (es++es') ρ',
  ⟨ds.length,by simp,Nat.zero_le _,Nat.le_refl _,F,_,_,[],[],.nil,wc,Step.refl,Keeps.refl,fun _ _=>rfl,by simp [cSt],by simpa using q⟩,?_⟩
 rintro i m ys σ1 H1 ⟨rfl,hi,hy,F1,ρ1,Ls1,es,Le,re,w1,s1,k1,e1,l1,q1⟩
 by_cases hlt:i<ds.length
 ·have hd:=List.getElem?_eq_getElem hlt
  rw [List.drop_eq_getElem_cons hlt] at q1
  refine .inr ⟨wk.go i F1 H1 k1 hlt,by have:=wk.small;omega,fun x H2 y=>?_⟩
  obtain ⟨rx,hH⟩:=wk.yld i F1 H1 x H2 _ k1 hd y
  have w2:WS K F1 H2 σ1 ρ1 Ls1 (Le++(jy ρ.length fr Ls++R))∧Step F1 H1 Ls1 F1 H2 Ls1 []∧Keeps F1 H1 F1 H2∧Rps K F1 H2 ys es Le:=by
   rcases hH with rfl | ⟨p,xs,hn,rfl⟩
   ·exact ⟨w1,Step.refl,Keeps.refl,re⟩
   ·exact ⟨w1.laid hn,Step.laid hn,Keeps.laid hn,re.laid hn⟩
  obtain ⟨w2,s2,k2,re2⟩:=w2
  refine ⟨F1,ρ1,Ls1,Le++(jy ρ.length fr Ls++R),_,_,[],w2,rx,q1,fun σ3 ρ3 Ls3 w3 src3 e3 l3 q3=>?_⟩
  have s3:Step F H (Lc own.length fr Ls) F1 H2 Ls3 Le:=((s1.trans s2).trans (Ls2:=Ls3) (F2:=F1) (H2:=H2) (Ld2:=[]) ⟨fun _ _ e _=>e,fun _ h=>h,fun j a h=>(src3 j a h).elim (fun h=>absurd h (by simp)) .inl,fun a h=>absurd h (by simp)⟩).more s1.srcD
  have e3':∀ z,own.length<=z -> σ3[z]? = (iY own fr σ)[z]?:=fun z hz=>(e3 z (decide_eq_true hz)).trans (e1 z hz)
  refine ⟨F1,ρ3,Ls3,Le++(jy ρ.length fr Ls++R),_,w3,q3,fun b H4 ρ4 F4 Ls4 w4 s4 q4=>?_⟩
  have k4:Keeps F H F4 H4:=(k1.trans k2).trans (s4.keeps w3)
  have re4:=re2.step w3 s4 fun a ha=>List.mem_append_left _ ha
  have hl3:∀ {ρ':En} {F':Addr->Prop} {H':Hp} {L':Nat->List Addr} {R':List Addr},WS K F' H' σ3 ρ' L' R' -> ρ'.length=own.length+fr.length:=fun {_ _ _ _ _} z=>by
   rw [z.len,l3,← w1.len,l1]
  cases b with
  | false=>
   dsimp only
   rw [if_neg Bool.false_ne_true] at q4 ⊢
   exact ⟨ds.length - (i+1),by omega,rfl,hlt,by omega,F4,ρ4,Ls4,es,Le,re4,w4,(s3.trans s4).more s3.srcD,k4,e3',hl3 w4,q4⟩
  | true=>
   dsimp only
   rw [if_pos rfl] at q4 ⊢
   refine ⟨F4,ρ4,Ls4,Le++(jy ρ.length fr Ls++R),_,w4,q4,fun v H5 d ρ5 F5 Ls5 Ld rv w5 s5 q5=>?_⟩
   have re5:=re4.step w4 s5 fun a ha=>List.mem_append_left _ ha
   have s45:Step F H (Lc own.length fr Ls) F4 H4 Ls4 Le:=(s3.trans s4).more s3.srcD
   refine ⟨ds.length - (i+1),by omega,rfl,hlt,by rw [List.length_append];simp;omega,F5,ρ5,Ls5,es++[d],Le++(Ld++[]),re5.append (.cons rv .nil),w5.perm ?_,?_,k4.trans (s5.keeps w4),e3',hl3 w5,?_⟩
   ·rw [List.append_nil]
    refine List.Perm.trans (List.perm_append_comm.append_right _) ?_
    rw [List.append_assoc]
   ·rw [List.append_nil];exact s45.both s5
   ·simpa using q5
 ·have e:i=ds.length:=by omega
  subst e
  rw [List.drop_length] at q1
  refine .inl ⟨wk.stop F1 H1 k1,fun p hp=>?_⟩
  obtain ⟨wf,sf⟩:=w.unblock nd hfr w1 s1 e1 l1
  rw [show es=es++[] by simp] at re
  exact fin H1 F1 ys (es++[]) ρ1 _ Le re wf sf q1 p hp
section
variable {X:Cx} {scope:Scope} {own:List Str} {fr:List Nat} {tg elt iter:Expr} {ifs:List Expr} {pos:Pos} {si:mZ} {g:fc} {t:dR} {el:bA}
theorem BL {K:PySem.W.Frag} {σ : St} {H:Hp} {Q:VK} (nd:fr.Nodup) (hf:∀ j∈fr,j < σ.length) (h:iI K (gW si own.length fr g t el) σ H Q):GX (Qx K si) own fr (Hd K (kpC own.length) g) (mV K t) (iI K el) σ H Q:=by
 obtain ⟨F,ρ,Ls,R,Qd,w,q,k⟩:=h
 refine ⟨F,ρ,Ls,R,_,w,q,fun J H1 ds ρ1 F1 Ls1 w1 s1 wk q1=>?_⟩
 refine Kv w1 nd (fun j hj=>by rw [w1.len];exact hf j hj) wk q1 fun H2 F2 ys es ρc Ls2 Le re w2 s2 q2 p hp=>?_
 have s12:=s1.trans s2
 refine k (.ref p) _ (.lst true es) _ F2 Ls2 (p :: Le) (.own cD (re.laid hp)) (w2.put hp) ((s12.trans (Step.laid hp)).more fun a ha=>?_) q2
 rcases List.mem_cons.mp ha with rfl | ha
 ·by_cases e:∃ j,a∈Ls j
  ·exact .inl e
  ·cases q:H a with
   | none=>exact .inr rfl
   | some o=>rw [s12.keep a o q fun i z=>e ⟨i,z⟩] at hp;cases hp
 ·exact s12.srcD a ha
theorem PE.wkI {e:Expr} {t t':TE} (h:PE X e t) (k:∀ σ H Q,σ.length=X.N.length->t' σ H Q->t σ H Q):PE X e t':=fun pins s σ H Q I q=>h pins s σ H Q I (k σ H Q I.len q)
theorem PS.wkI {e:Stmt} {t t':TS} (h:PS X e t) (k:∀ D σ H,σ.length=X.N.length->t' D σ H->t D σ H):PS X e t':=fun pins s σ H D I q=>h pins s σ H D I (k D σ H I.len q)
theorem gh (hc:X.calm=true) (hi:SI X tg iter si) (S:CScope X scope own fr) (nd:fr.Nodup) (hg:∀ cl C fp s₂ H₂,SG (X.comp scope (cN X own fr) cl C fp s₂ H₂) (kpC own.length) tg g)
  (ht:∀ cl C fp s₂ H₂,SBs (X.comp scope (cN X own fr) cl C fp s₂ H₂) ifs t) (he:∀ cl C fp s₂ H₂,SE (X.comp scope (cN X own fr) cl C fp s₂ H₂) elt el)
  (hs:∀ x,foldedSetIterable iter X.env x=pure x:=by intro _;rfl):SE X (.ListComp elt [⟨tg,iter,ifs,0⟩] scope pos) (gW si own.length fr g t el):=
 (Iu (g:=Hd X.K (kpC own.length) g) (tt:=mV X.K t) (te:=iI X.K el) hc hi S hg ht he hs).wkI fun σ H Q hl h=>BL nd (fun j hj=>by rw [hl];exact (S.frs j hj).1) h
theorem Js {kp:Nat->Bool} {i:Nat} {y:Str} {py spos:Pos} (hf0:Hm kp i) (hN:X.N.Nodup) (hi:X.N[i]? = some y) (hx:Loc X.env.scope y) (hc:X.calm=true) (hit:SI X tg iter si) (S:CScope X scope own fr) (nd:fr.Nodup)
  (hg:∀ cl C fp s₂ H₂,SG (X.comp scope (cN X own fr) cl C fp s₂ H₂) (kpC own.length) tg g) (ht:∀ cl C fp s₂ H₂,SBs (X.comp scope (cN X own fr) cl C fp s₂ H₂) ifs t) (he:∀ cl C fp s₂ H₂,SE (X.comp scope (cN X own fr) cl C fp s₂ H₂) elt el)
  (hsw:swapsWith (.ListComp elt [⟨tg,iter,ifs,0⟩] scope pos) (some (.Name y py)) spos.line X.env=pure true:=by rfl)
  (hs:∀ x,foldedSetIterable iter X.env x=pure x:=by intro _;rfl) (hf:X.fn y=true∨X.env.scope.names.lookup y=some .local:=by first | exact .inl rfl | exact .inr rfl | assumption) :
  SS X kp (.Assign [.Name y py] (.ListComp elt [⟨tg,iter,ifs,0⟩] scope pos) spos) (bD i (gW si own.length fr g t el)):=
 (IW (g:=Hd X.K (kpC own.length) g) (tt:=mV X.K t) (te:=iI X.K el) hN hi hx hc hit S hg ht he hsw hs hf).wkI fun D σ H hl ⟨F,ρ,Ls,R,E,w,q,p⟩=>
  BL nd (fun j hj=>by rw [hl];exact (S.frs j hj).1) ⟨F,ρ,Ls,R,_,w,q,fun v H1 d ρ1 F1 Ls1 Ld r1 w1 s1 q1=>p.nx _ H1 _ F1 _ (w1.set r1) s1.put (Ng hf0) q1⟩
end
end L2
namespace L2
open PySem PySem.Spec PyProof.Rows
abbrev cW:=List D->(D->Option D->Prop)->Prop
def yS (n:Nat) (x:Option D):En:=(List.replicate n none).set 0 x
def qu (io:Bool) (ρ : En):Option D:=if io=true then (ρ[0]?).getD none else none
def aZ (K:PySem.W.Frag) (n:Nat) (io:Bool) (f:cW):Sp:=fun vs H Q _=>vs.length=n ∧ ∃ F ds Ls R Qd,WS K F H (vs.map some) (ds.map some) Ls R∧(∀ j,(io=true->j≠0)->Ls j=[])∧f ds Qd ∧
 ∀ v H' r x F' Ls' Lr,Rp K F' H' v r Lr->WS K F' H' (vs.map some) (yS n x) Ls' (Lr++R)->Step F H Ls F' H' Ls' Lr->Qd r x->Q v H'
def fnS (n m:Nat) (io:Bool) (b:cP):cW:=fun ds Q=>ds.length=n∧b (ds.map some++List.replicate m none) { nx:=fun ρ => Q .non (qu io ρ),rt:=fun d ρ => Q d (qu io ρ) }
def kpF (io:Bool):Nat->Bool:=fun z=>io&&z==0
section
variable {K:PySem.W.Frag} {F:Addr->Prop} {H:Hp} {σ : St} {ρ : En} {Ls:Nat->List Addr} {R:List Addr}
theorem Ag {α : Type} {l:List (Option α)} {m i:Nat} {d : α} (e:(l++List.replicate m none)[i]? = some (some d)):l[i]? = some (some d):=by
 by_cases hi:i<l.length
 ·rw [List.getElem?_append_left hi] at e;exact e
 ·rw [List.getElem?_append_right (by omega),List.getElem?_replicate] at e
  split at e <;> simp at e
theorem WS.pad (w:WS K F H σ ρ Ls R) (m:Nat):WS K F H (σ ++ List.replicate m none) (ρ ++ List.replicate m none) Ls R:=
 { w with
   len:=by rw [List.length_append,List.length_append,w.len];simp
   sl:=fun i d e=>by
    obtain ⟨v,h1,h2⟩:=w.sl i d (Ag e)
    exact ⟨v,by rw [List.getElem?_append_left (List.getElem?_eq_some_iff.mp h1).1];exact h1,h2⟩
   em:=fun i h=>w.em i fun d e=>h d (by rw [List.getElem?_append_left (List.getElem?_eq_some_iff.mp e).1];exact e) }
theorem Ez {n i:Nat} {x:Option D} {d:D} (e:(yS n x)[i]? = some (some d)):i=0∧0<n∧x=some d:=by
 unfold yS at e
 by_cases hi:i=0
 ·subst hi
  cases n with
  | zero=>simp at e
  | succ n=>simp [List.replicate_succ] at e;exact ⟨rfl,Nat.succ_pos _,e⟩
 ·rw [List.getElem?_set_ne (Ne.symm hi),List.getElem?_replicate] at e
  split at e <;> simp at e
theorem vg {n:Nat} {x:Option D} (h:0<n):(yS n x)[0]? = some x:=by
 unfold yS
 exact List.getElem?_set_self (by simpa using h)
theorem WS.only {io:Bool} {vs:List V} {m:Nat} {R:List Addr} (w:WS K F H σ ρ Ls R) (h:∀ z,kpF io z=true -> σ[z]? = (vs.map some++List.replicate m none)[z]?) :
  ∃ Ls',WS K F H (vs.map some) (yS vs.length (qu io ρ)) Ls' R ∧ ∀ i a,a∈Ls' i->a∈Ls i:=by
 refine ⟨fun i=>if io=true∧i=0∧0<vs.length then Ls 0 else [],?_,fun i a m=>?_⟩
 ·have sub:∀ {i:Nat} {a:Addr},a∈(if io=true∧i=0∧0<vs.length then Ls 0 else [])->i=0∧a∈Ls 0:=fun {i a} m=>by
   by_cases c:io=true∧i=0∧0<vs.length
   ·rw [if_pos c] at m;exact ⟨c.2.1,m⟩
   ·rw [if_neg c] at m;simp at m
  exact {
   len:=by simp [yS]
   sl:=fun i d e=>by
    obtain ⟨rfl,hn,e⟩:=Ez e
    unfold qu at e
    by_cases hio:io=true
    ·rw [if_pos hio] at e
     have e1 : ρ[0]? = some (some d):=by
      cases q : ρ[0]? with
      | none=>rw [q] at e;simp at e
      | some o=>rw [q] at e;simp at e;rw [e]
     obtain ⟨v,h1,h2⟩:=w.sl 0 d e1
     rw [h 0 (by unfold kpF;rw [hio];rfl)] at h1
     exact ⟨v,Ag h1,by rw [if_pos ⟨hio,rfl,hn⟩];exact h2⟩
    ·rw [if_neg hio] at e;cases e
   em:=fun i hi=>by
    by_cases c:io=true∧i=0∧0<vs.length
    ·rw [if_pos c]
     refine w.em 0 fun d e=>hi d ?_
     rw [c.2.1,vg c.2.2]
     unfold qu
     rw [if_pos c.1,e];rfl
    ·rw [if_neg c]
   nd:=fun i=>by
    by_cases c:io=true∧i=0∧0<vs.length
    ·rw [if_pos c];exact w.nd 0
    ·rw [if_neg c];exact List.nodup_nil
   dj:=fun i j a h1 h2=>(sub h1).1.trans (sub h2).1.symm
   rd:=w.rd
   rj:=fun i a m=>w.rj 0 a (sub m).2
   nf:=fun i a m=>w.nf 0 a (sub m).2
   nr:=w.nr
   tr:=w.tr
   ft:=w.ft }
 ·dsimp only at m
  by_cases c:io=true∧i=0∧0<vs.length
  ·rw [if_pos c] at m;rw [c.2.1];exact m
  ·rw [if_neg c] at m;simp at m
end
theorem Es {CX:CXT} {P:Program} {w:World} {K:PySem.W.Frag} {mg:Str->Option Value} {base:Heap} {k:Nat} {f:Addr} {name qual:Str} {params:Arguments} {body:List Stmt} {scope:Scope} {dV kV doc pm cdv ct oc:Value} {an od:Option Addr}
  {osl:Array (Option Value)} {N ps:List Str} {io:Bool} {b:cP} (lk:K.lookup f=some ⟨oc,od,.func (PySem.W.fnOf name qual params body scope dV kV doc pm an cdv ct),osl⟩) (hcd:PySem.W.codeIn K cdv qual=true) (S:FnScope N ps scope)
  (hb:∀ (A:Around) (outer:List Env) (s:Shared) (H:Hp) (E:XK),Room k (A.deeper (envOfC qual scope s.heap.objs.size f cdv))->SL (qp CX P w K mg base N qual scope f cdv A outer s H E) (kpF io) body b) :
  FnOk P w K mg base CX (k+1) f (PySem.W.fnOf name qual params body scope dV kV doc pm an cdv ct) ps (aZ K ps.length io (fnS ps.length (N.length - ps.length) io b)):=
 JQ lk hcd S (fun vs H Q E h=>h.1) fun A outer s H vs Q E hr hsp=>by
  obtain ⟨hl,F,ds,Ls,R,Qd,ws,hL,⟨hd,q⟩,fin⟩:=hsp
  refine ⟨_,hb A outer s H E hr,F,_,Ls,R,_,?_,q,⟨fun σ' H' ρ' F' Ls' w' s' e' q'=>?_,fun v σ' H' d ρ' F' Ls' Ld r' w' s' e' q'=>?_,fun _ _ _ _ _ _ _ _ z=>z.elim,fun _ _ _ _ _ _ _ _ z=>z.elim⟩⟩
  ·have:=ws.pad (N.length - ps.length)
   unfold start
   rw [hl]
   exact this
  ·obtain ⟨Ls2,w2,sub⟩:=w'.only (vs:=vs) (m:=N.length - vs.length) e'
   rw [hl] at w2
   exact fin .non H' .non _ F' Ls2 [] .non w2 ⟨s'.keep,s'.mono,fun i a m=>s'.src i a (sub i a m),fun a h=>absurd h (by simp)⟩ q'
  ·obtain ⟨Ls2,w2,sub⟩:=w'.only (vs:=vs) (m:=N.length - vs.length) e'
   rw [hl] at w2
   exact fin v H' d _ F' Ls2 Ld r' w2 ⟨s'.keep,s'.mono,fun i a m=>s'.src i a (sub i a m),s'.srcD⟩ q'
def namsOf:List AD->List Nat
 | []=>[]
 | .val _ :: as=>namsOf as
 | .nam i :: as=>i :: namsOf as
def cX (ρ : En):List Nat->En
 | []=>ρ
 | i :: is=>match (cX ρ is)[i]? with
  | some (some d)=>(cX ρ is).set i (some d.fz)
  | _=>cX ρ is
def aft (ρ : En) (as:List AD) (cl:Bool):En:=if (namsSh ρ as||cl)=true then ρ else cX ρ (namsOf as)
def aF (n:Nat) (f:cW) (os:List Opd):bA:=fun ρ Q=>dq os ρ fun as ρ'=>∃ ds,bc ρ' as=some ds∧ds.length=n∧f (D.fzs ds) fun r _=>Q r (aft ρ' as r.clean)
def clO:Option D->Bool
 | some d=>d.clean
 | none=>true
def aA (n:Nat) (f:cW) (i:Nat) (os:List Opd):bA:=fun ρ Q=>dq (.nam i :: os) ρ fun as0 ρ'=>∃ d0 as ds,as0 = .nam i :: as ∧ ρ'[i]? = some (some d0)∧bc ρ' as=some ds∧ds.length+1=n∧i ∉ namsOf as ∧
 f (d0 :: D.fzs ds) fun r x=>(namsSh ρ' as||(r.clean&&clO x))=true∧Q r (ρ'.set i x)
section
variable {K:PySem.W.Frag} {F:Addr->Prop} {H:Hp} {σ : St} {ρ : En} {Ls:Nat->List Addr} {R:List Addr}
theorem kW (w:WS K F H σ ρ Ls R):∀ {as:List AD},namsSh ρ as=true -> ∀ i∈namsOf as,Ls i=[]
 | [],_,i,h=>absurd h (by simp [namsOf])
 | .val _ :: as,e,i,h=>kW w (as:=as) e i h
 | .nam j :: as,e,i,h=>by
  rw [namsSh,Bool.and_eq_true] at e
  rcases List.mem_cons.mp h with z | z
  ·subst z
   cases q : ρ[i]? with
   | none=>exact w.em i fun d z=>by rw [q] at z;cases z
   | some o=>
    cases o with
    | none=>exact w.em i fun d z=>by rw [q] at z;cases z
    | some d=>
     obtain ⟨v,_,r⟩:=w.sl i d q
     rw [q] at e
     exact r.sh_nil e.1
  ·exact kW w e.2 i z
theorem RpA.share (w:WS K F H σ ρ Ls R) {F':Addr->Prop} (hF:∀ a,F a->F' a):∀ {vs:List V} {as:List AD} {La:List Addr} {ds:List D},RpA K F H σ vs as La->bc ρ as=some ds->(∀ a∈La,F' a)->(∀ i∈namsOf as,∀ a∈Ls i,F' a)->Rps K F' H vs (D.fzs ds) []
 | _,_,_,_,.nil,e,_,_=>by cases e;rw [D.fzs];exact .nil
 | _,_,_,_,.val r rs,e,h1,h2=>by
  obtain ⟨d,ds,e1,e2,rfl⟩:=jt e
  cases e1
  rw [D.fzs]
  exact .cons (L:=[]) (M:=[]) (r.freeze hF fun a ha=>h1 a (List.mem_append_left _ ha)) (RpA.share w hF rs e2 (fun a ha=>h1 a (List.mem_append_right _ ha)) h2)
 | _,_,_,_,.nam (i:=i) hi rs,e,h1,h2=>by
  obtain ⟨d,ds,e1,e2,rfl⟩:=jt e
  obtain ⟨v,hv,r⟩:=w.sl i d (Af e1)
  rw [hi] at hv
  cases hv
  rw [D.fzs]
  exact .cons (L:=[]) (M:=[]) (r.freeze hF (h2 i List.mem_cons_self)) (RpA.share w hF rs e2 h1 fun j hj=>h2 j (List.mem_cons_of_mem _ hj))
theorem Rps.slots {vs:List V} {ds:List D} (r:Rps K F H vs ds []):∀ (i:Nat) (d:D),(ds.map some)[i]? = some (some d) -> ∃ v,(vs.map some)[i]? = some (some v)∧Rp K F H v d []:=fun i d e=>by
 rw [List.getElem?_map] at e
 obtain ⟨d',e1,e2⟩:=Option.map_eq_some_iff.mp e
 cases e2
 obtain ⟨v,M,h1,h2,h3⟩:=r.get e1
 cases List.sublist_nil.mp h3
 exact ⟨v,by rw [List.getElem?_map,h1];rfl,h2⟩
end
section
variable {K:PySem.W.Frag} {F:Addr->Prop} {H:Hp} {σ : St} {ρ : En} {Ls:Nat->List Addr} {R:List Addr}
theorem pO:∀ is:List Nat,(cX ρ is).length = ρ.length
 | []=>rfl
 | i :: is=>by
  unfold cX
  split
  ·rw [List.length_set];exact pO is
  ·exact pO is
theorem jZ:∀ (is:List Nat) (j:Nat),(j ∉ is->(cX ρ is)[j]? = ρ[j]?)∧(j∈is->(cX ρ is)[j]? = (ρ[j]?).map fun o=>o.map D.fz)
 | [],j=>⟨fun _=>rfl,fun h=>absurd h (by simp)⟩
 | i :: is,j=>by
  obtain ⟨h1,h2⟩:=jZ is j
  have hi:=jZ is i
  have both:(cX ρ is)[i]? = ρ[i]? ∨ (cX ρ is)[i]? = (ρ[i]?).map fun o=>o.map D.fz:=by
   by_cases m:i∈is
   ·exact .inr (hi.2 m)
   ·exact .inl (hi.1 m)
  have atI:(cX ρ (i :: is))[i]? = (ρ[i]?).map fun o=>o.map D.fz:=by
   unfold cX
   split
   ·rename_i d e
    have hl:=(List.getElem?_eq_some_iff.mp e).1
    rw [List.getElem?_set_self hl]
    rcases both with b | b
    ·rw [← b,e];rfl
    ·rw [← b,e]
     rw [e] at b
     cases q : ρ[i]? with
     | none=>rw [q] at b;cases b
     | some o=>
      rw [q] at b
      cases o with
      | none=>simp at b
      | some d'=>simp at b;rw [b,D.fz_fz]
   ·rename_i n
    cases q:(cX ρ is)[i]? with
    | none=>
     rcases both with b | b
     ·rw [← b,q];rfl
     ·rw [← b,q]
    | some o=>
     cases o with
     | none=>
      rcases both with b | b
      ·rw [← b,q];rfl
      ·rw [← b,q]
     | some d=>exact absurd q (n d)
  by_cases e:j=i
  ·subst e
   exact ⟨fun h=>absurd List.mem_cons_self h,fun _=>atI⟩
  ·have same:(cX ρ (i :: is))[j]? = (cX ρ is)[j]?:=by
    show (match (cX ρ is)[i]? with | some (some d)=>(cX ρ is).set i (some d.fz) | _=>cX ρ is)[j]? = _
    split
    ·rw [List.getElem?_set_ne (Ne.symm e)]
    ·rfl
   refine ⟨fun h=>by rw [same];exact h1 fun z=>h (List.mem_cons_of_mem _ z),fun h=>?_⟩
   rw [same]
   exact h2 ((List.mem_cons.mp h).resolve_left e)
theorem WS.shared {F':Addr->Prop} {H':Hp} {R':List Addr} {is:List Nat} (w:WS K F H σ ρ Ls R) (h:∀ i∈is,∀ d,ρ[i]? = some (some d) -> ∃ v,σ[i]? = some (some v)∧Rp K F' H' v d.fz [])
  (w':WS K F' H' σ (is.foldr (fun i ρ => ρ.set i none) ρ) (fun i=>if i∈is then [] else Ls i) R'):WS K F' H' σ (cX ρ is) (fun i=>if i∈is then [] else Ls i) R':=by
 have get:∀ (js:List Nat) (j:Nat),(j ∉ js->(js.foldr (fun i ρ => ρ.set i none) ρ)[j]? = ρ[j]?):=by
  intro js
  induction js with
  | nil=>intro j _;rfl
  | cons a js ih=>
   intro j hj
   show ((js.foldr (fun i ρ => ρ.set i none) ρ).set a none)[j]? = _
   rw [List.getElem?_set_ne fun z=>hj (by rw [z];exact List.mem_cons_self)]
   exact ih j fun z=>hj (List.mem_cons_of_mem _ z)
 exact { w' with
  len:=by rw [pO];exact w.len
  sl:=fun i d e=>by
   by_cases m:i∈is
   ·rw [(jZ is i).2 m] at e
    cases q : ρ[i]? with
    | none=>rw [q] at e;cases e
    | some o=>
     rw [q] at e
     cases o with
     | none=>simp at e
     | some d'=>
      simp at e
      subst e
      obtain ⟨v,h1,h2⟩:=h i m d' q
      exact ⟨v,h1,by rw [if_pos m];exact h2⟩
   ·rw [(jZ is i).1 m] at e
    exact w'.sl i d (by rw [get is i m];exact e)
  em:=fun i hi=>by
   by_cases m:i∈is
   ·rw [if_pos m]
   ·rw [if_neg m]
    refine w.em i fun d e=>hi d ?_
    rw [(jZ is i).1 m];exact e }
end
section
variable {X:Cx} {CX:CXT} {k n:Nat} {f:Addr} {fd:FuncData} {ps:List Str} {sf:cW} {E:XK} {x:Str} {p pos:Pos} {e:Expr} {es:List Expr} {os:List Opd} {K:PySem.W.Frag} {σ : St} {H:Hp}
theorem Jx {Q:VK} (h:iI K (aF n sf os) σ H Q):pQ K os σ H fun vs H1=>aZ K n false sf (vs++[]) H1 Q E:=by
 obtain ⟨F,ρ,Ls,R,Qd,w,q,kk⟩:=h
 refine ⟨F,ρ,Ls,R,_,w,q,fun vs H1 as ρ1 F1 Ls1 La r1 w1 s1 ⟨ds,e1,hn,q1⟩=>?_⟩
 show aZ K n false sf (vs++[]) H1 Q E
 rw [List.append_nil]
 have hF2:∀ a,F1 a->(F1 a∨a∈La ∨ ∃ i∈namsOf as,a∈Ls1 i):=fun a h=>.inl h
 have rs:=r1.share w1 (F':=fun a=>F1 a∨a∈La ∨ ∃ i∈namsOf as,a∈Ls1 i) hF2 e1 (fun a h=>.inr (.inl h)) fun i hi a ha=>.inr (.inr ⟨i,hi,ha⟩)
 have hlen:vs.length=n:=by rw [rs.length,D.fzs_eq,List.length_map];exact hn
 have hrd:=List.nodup_append.mp w1.rd
 have inR:∀ {i:Nat} {a:Addr},i ∉ namsOf as->a∈Ls1 i->a∈jy ρ1.length (namsOf as) Ls1:=fun {i a} h m=>cM.mpr ⟨i,by
  by_cases hi:i < ρ1.length
  ·exact hi
  ·rw [w1.em i fun d e=>by rw [List.getElem?_eq_none (by omega)] at e;cases e] at m;simp at m,h,m⟩
 have w2:WS K (fun a=>F1 a∨a∈La ∨ ∃ i∈namsOf as,a∈Ls1 i) H1 (vs.map some) ((D.fzs ds).map some) (fun _=>[]) (jy ρ1.length (namsOf as) Ls1++R):={
  len:=by rw [List.length_map,List.length_map,rs.length]
  sl:=rs.slots
  em:=fun _ _=>rfl
  nd:=fun _=>List.nodup_nil
  dj:=fun i j a h _=>absurd h (by simp)
  rd:=by
   rw [List.nodup_append]
   refine ⟨km w1.nd w1.dj (List.nodup_range.filter _),hrd.2.1,fun a ha b hb e=>?_⟩
   subst e
   obtain ⟨i,_,_,hi⟩:=cM.mp ha
   exact w1.rj i a hi (List.mem_append_right _ hb)
  rj:=fun i a h=>absurd h (by simp)
  nf:=fun i a h=>absurd h (by simp)
  nr:=fun a m z=>by
   rcases List.mem_append.mp m with m | m
   ·obtain ⟨i,_,hi,mi⟩:=cM.mp m
    rcases z with z | z | ⟨j,hj,z⟩
    ·exact w1.nf i a mi z
    ·exact w1.rj i a mi (List.mem_append_left _ z)
    ·rw [w1.dj i j a mi z] at hi;exact hi hj
   ·rcases z with z | z | ⟨j,hj,z⟩
    ·exact w1.nr a (List.mem_append_right _ m) z
    ·exact hrd.2.2 a z a m rfl
    ·exact w1.rj j a z (List.mem_append_right _ m)
  tr:=fun a m=>by
   rcases List.mem_append.mp m with m | m
   ·obtain ⟨i,_,hi,mi⟩:=cM.mp m
    exact w1.own mi
   ·exact w1.tr a (List.mem_append_right _ m)
  ft:=fun a z=>by
   rcases z with z | z | ⟨j,hj,z⟩
   ·exact w1.ft a z
   ·obtain ⟨xs,e⟩:=w1.tr a (List.mem_append_left _ z);rw [e];simp
   ·obtain ⟨xs,e⟩:=w1.own z;rw [e];simp }
 refine ⟨hlen,_,_,_,_,_,w2,fun _ _=>rfl,q1,fun v H' r x F' Ls' Lr rr wr sr qr=>?_⟩
 have keep:∀ a o,H1 a=some o->H' a=some o:=fun a o e=>sr.keep a o e fun _ z=>absurd z (by simp)
 have fresh:∀ a∈Lr,H1 a=none:=fun a m=>(sr.srcD a m).elim (fun ⟨_,z⟩=>absurd z (by simp)) id
 have hLr:=List.nodup_append.mp wr.rd
 have rd3:(Lr++R).Nodup:=by
  rw [List.nodup_append]
  exact ⟨hLr.1,hrd.2.1,fun a ha b hb e=>hLr.2.2 a ha b (List.mem_append_right _ hb) e⟩
 have tr3:∀ a∈Lr++R,∃ xs:OL,H' a=some xs.ho:=fun a m=>by
  rcases List.mem_append.mp m with m | m
  ·exact wr.tr a (List.mem_append_left _ m)
  ·exact wr.tr a (List.mem_append_right _ (List.mem_append_right _ m))
 have nr3:∀ a∈Lr++R,¬ F' a:=fun a m=>by
  rcases List.mem_append.mp m with m | m
  ·exact wr.nr a (List.mem_append_left _ m)
  ·exact wr.nr a (List.mem_append_right _ (List.mem_append_right _ m))
 have rj3:∀ i a,a∈Ls1 i->a ∉ Lr++R:=fun i a m z=>by
  rcases List.mem_append.mp z with z | z
  ·obtain ⟨xs,e⟩:=w1.own m;rw [fresh a z] at e;cases e
  ·exact w1.rj i a m (List.mem_append_right _ z)
 unfold aft at qr
 by_cases hc:(namsSh ρ1 as||r.clean)=true
 ·rw [if_pos hc] at qr
  rw [Bool.or_eq_true] at hc
  have r3:Rp K (fun a=>F' a ∧ ∀ i∈namsOf as,a ∉ Ls1 i) H' v r Lr:=by
   rcases hc with hc | hc
   ·exact rr.mono (fun a h=>⟨h,fun i hi z=>by rw [kW w1 hc i hi] at z;simp at z⟩) (fun _ _ e _=>e) (fun _ _ _ e=>e) fun _ _ _ e=>e
   ·exact rr.clean hc
  have F13:∀ a,F1 a->F' a ∧ ∀ i∈namsOf as,a ∉ Ls1 i:=fun a h=>⟨sr.mono a (.inl h),fun i _ z=>w1.nf i a z h⟩
  refine kk v H' r ρ1 (fun a=>F' a ∧ ∀ i∈namsOf as,a ∉ Ls1 i) Ls1 Lr r3 ?_ ?_ qr
  ·exact {
    len:=w1.len
    sl:=fun i d e=>let ⟨u,h1,h2⟩:=w1.sl i d e;⟨u,h1,h2.mono F13 (fun a o e _=>keep a o e) (fun a o _ e=>keep a o e) fun a _ o e=>keep a o e⟩
    em:=w1.em
    nd:=w1.nd
    dj:=w1.dj
    rd:=rd3
    rj:=rj3
    nf:=fun i a m z=>by
     by_cases hi:i∈namsOf as
     ·exact z.2 i hi m
     ·exact wr.nr a (List.mem_append_right _ (List.mem_append_left _ (inR hi m))) z.1
    nr:=fun a m z=>nr3 a m z.1
    tr:=tr3
    ft:=fun a z=>wr.ft a z.1 }
  ·exact s1.trans ⟨fun a o e _=>keep a o e,F13,fun i a m=>.inl ⟨i,m⟩,fun a m=>.inr (fresh a m)⟩
 ·rw [if_neg hc] at qr
  have own2:∀ {i:Nat} {a:Addr},a∈(if i∈namsOf as then [] else Ls1 i)->i ∉ namsOf as∧a∈Ls1 i:=fun {i a} m=>by
   by_cases c:i∈namsOf as
   ·rw [if_pos c] at m;simp at m
   ·rw [if_neg c] at m;exact ⟨c,m⟩
  have F13:∀ a,F1 a->F' a:=fun a h=>sr.mono a (.inl h)
  refine kk v H' r (cX ρ1 (namsOf as)) F' (fun i=>if i∈namsOf as then [] else Ls1 i) Lr rr (w1.shared (fun i hi d e=>?_) ?_) ?_ qr
  ·obtain ⟨u,h1,h2⟩:=w1.sl i d e
   refine ⟨u,h1,?_⟩
   have:=h2.freeze (F':=F') F13 fun a ha=>sr.mono a (.inr (.inr ⟨i,hi,ha⟩))
   exact this.mono (fun _ h=>h) (fun a o e _=>keep a o e) (fun a o _ e=>keep a o e) fun a h=>absurd h (by simp)
  ·have get:∀ (js:List Nat) (j:Nat) (d:D),(js.foldr (fun i ρ => ρ.set i none) ρ1)[j]? = some (some d)->j ∉ js ∧ ρ1[j]? = some (some d):=by
    intro js
    induction js with
    | nil=>intro j d e;exact ⟨by simp,e⟩
    | cons a js ih=>
     intro j d e
     have e':((js.foldr (fun i ρ => ρ.set i none) ρ1).set a none)[j]? = some (some d):=e
     by_cases c:a=j
     ·subst c
      by_cases hl:a<(js.foldr (fun i (ρ : En)=>ρ.set i none) ρ1).length
      ·rw [List.getElem?_set_self hl] at e';cases e'
      ·rw [List.set_eq_of_length_le (by omega),List.getElem?_eq_none (by omega)] at e';cases e'
     ·rw [List.getElem?_set_ne c] at e'
      obtain ⟨h1,h2⟩:=ih j d e'
      exact ⟨fun z=>(List.mem_cons.mp z).elim (fun q=>c q.symm) h1,h2⟩
   have len:∀ js:List Nat,(js.foldr (fun i (ρ : En)=>ρ.set i none) ρ1).length = ρ1.length:=by
    intro js
    induction js with
    | nil=>rfl
    | cons a js ih=>show ((js.foldr (fun i ρ => ρ.set i none) ρ1).set a none).length=_;rw [List.length_set];exact ih
   have getN:∀ (js:List Nat) (j:Nat),j ∉ js->(js.foldr (fun i (ρ : En)=>ρ.set i none) ρ1)[j]? = ρ1[j]?:=by
    intro js
    induction js with
    | nil=>intro j _;rfl
    | cons a js ih=>
     intro j hj
     show ((js.foldr (fun i ρ => ρ.set i none) ρ1).set a none)[j]? = _
     rw [List.getElem?_set_ne fun z=>hj (by rw [z];exact List.mem_cons_self)]
     exact ih j fun z=>hj (List.mem_cons_of_mem _ z)
   exact {
    len:=(len _).trans w1.len
    sl:=fun i d e=>by
     obtain ⟨h1,h2⟩:=get _ i d e
     obtain ⟨u,h3,h4⟩:=w1.sl i d h2
     exact ⟨u,h3,by rw [if_neg h1];exact h4.mono F13 (fun a o e _=>keep a o e) (fun a o _ e=>keep a o e) fun a _ o e=>keep a o e⟩
    em:=fun i h=>by
     by_cases c:i∈namsOf as
     ·rw [if_pos c]
     ·rw [if_neg c];exact w1.em i fun d e=>h d (by rw [getN _ i c];exact e)
    nd:=fun i=>by
     by_cases c:i∈namsOf as
     ·rw [if_pos c];exact List.nodup_nil
     ·rw [if_neg c];exact w1.nd i
    dj:=fun i j a h h'=>w1.dj i j a (own2 h).2 (own2 h').2
    rd:=rd3
    rj:=fun i a m=>rj3 i a (own2 m).2
    nf:=fun i a m z=>wr.nr a (List.mem_append_right _ (List.mem_append_left _ (inR (own2 m).1 (own2 m).2))) z
    nr:=nr3
    tr:=tr3
    ft:=wr.ft }
  ·exact s1.trans ⟨fun a o e _=>keep a o e,F13,fun i a m=>.inl ⟨i,(own2 m).2⟩,fun a m=>.inr (fresh a m)⟩
theorem Hb {Q:VK} {i:Nat} (h:iI K (aA n sf i os) σ H Q):pQ K (.nam i :: os) σ H fun vs H1=>aZ K n true sf (vs++[]) H1 Q E:=by
 obtain ⟨F,ρ,Ls,R,Qd,w,q,kk⟩:=h
 refine ⟨F,ρ,Ls,R,_,w,q,fun vs0 H1 as0 ρ1 F1 Ls1 La r0 w1 s1 ⟨d0,as,ds,e0,ei,e1,hn,hi,q1⟩=>?_⟩
 subst e0
 show aZ K n true sf (vs0++[]) H1 Q E
 rw [List.append_nil]
 cases r0 with
 | @nam v0 vs _ _ _ hv r1=>
 obtain ⟨v0',hv',rp0⟩:=w1.sl i d0 ei
 rw [hv] at hv'
 cases hv'
 have hF2:∀ a,F1 a->(F1 a∨a∈La ∨ ∃ j∈namsOf as,a∈Ls1 j):=fun a h=>.inl h
 have rs:=r1.share w1 (F':=fun a=>F1 a∨a∈La ∨ ∃ j∈namsOf as,a∈Ls1 j) hF2 e1 (fun a h=>.inr (.inl h)) fun j hj a ha=>.inr (.inr ⟨j,hj,ha⟩)
 have hlen:(v0 :: vs).length=n:=by rw [List.length_cons,rs.length,D.fzs_eq,List.length_map];exact hn
 have hrd:=List.nodup_append.mp w1.rd
 have inR:∀ {j:Nat} {a:Addr},j ∉ i :: namsOf as->a∈Ls1 j->a∈jy ρ1.length (i :: namsOf as) Ls1:=fun {j a} h m=>cM.mpr ⟨j,by
  by_cases hj:j < ρ1.length
  ·exact hj
  ·rw [w1.em j fun d e=>by rw [List.getElem?_eq_none (by omega)] at e;cases e] at m;simp at m,h,m⟩
 have rp0':Rp K (fun a=>F1 a∨a∈La ∨ ∃ j∈namsOf as,a∈Ls1 j) H1 v0 d0 (Ls1 i):=rp0.mono hF2 (fun _ _ e _=>e) (fun _ _ _ e=>e) fun _ _ _ e=>e
 have l0:∀ {j:Nat} {a:Addr},a∈(if j=0 then Ls1 i else [])->j=0∧a∈Ls1 i:=fun {j a} m=>by
  by_cases c:j=0
  ·rw [if_pos c] at m;exact ⟨c,m⟩
  ·rw [if_neg c] at m;simp at m
 have w2:WS K (fun a=>F1 a∨a∈La ∨ ∃ j∈namsOf as,a∈Ls1 j) H1 ((v0 :: vs).map some) ((d0 :: D.fzs ds).map some) (fun j=>if j=0 then Ls1 i else []) (jy ρ1.length (i :: namsOf as) Ls1++R):={
  len:=by rw [List.length_map,List.length_map,List.length_cons,List.length_cons,rs.length]
  sl:=fun j d e=>by
   cases j with
   | zero=>simp at e;subst e;exact ⟨v0,rfl,rp0'⟩
   | succ j=>
    obtain ⟨u,h1,h2⟩:=rs.slots j d (by simpa using e)
    exact ⟨u,by simpa using h1,by simpa using h2⟩
  em:=fun j h=>by
   cases j with
   | zero=>exact absurd rfl (h d0)
   | succ j=>rfl
  nd:=fun j=>by
   by_cases c:j=0
   ·rw [if_pos c];exact w1.nd i
   ·rw [if_neg c];exact List.nodup_nil
  dj:=fun j j' a h h'=>(l0 h).1.trans (l0 h').1.symm
  rd:=by
   rw [List.nodup_append]
   refine ⟨km w1.nd w1.dj (List.nodup_range.filter _),hrd.2.1,fun a ha b hb e=>?_⟩
   subst e
   obtain ⟨j,_,_,hj⟩:=cM.mp ha
   exact w1.rj j a hj (List.mem_append_right _ hb)
  rj:=fun j a h m=>by
   have hm:=(l0 h).2
   rcases List.mem_append.mp m with m | m
   ·obtain ⟨j',_,hj,mj⟩:=cM.mp m
    exact hj (by rw [w1.dj j' i a mj hm];exact List.mem_cons_self)
   ·exact w1.rj i a hm (List.mem_append_right _ m)
  nf:=fun j a h z=>by
   have hm:=(l0 h).2
   rcases z with z | z | ⟨j',hj,z⟩
   ·exact w1.nf i a hm z
   ·exact w1.rj i a hm (List.mem_append_left _ z)
   ·exact hi (by rw [w1.dj i j' a hm z];exact hj)
  nr:=fun a m z=>by
   rcases List.mem_append.mp m with m | m
   ·obtain ⟨j,_,hj,mj⟩:=cM.mp m
    rcases z with z | z | ⟨j',hj',z⟩
    ·exact w1.nf j a mj z
    ·exact w1.rj j a mj (List.mem_append_left _ z)
    ·rw [w1.dj j j' a mj z] at hj;exact hj (List.mem_cons_of_mem _ hj')
   ·rcases z with z | z | ⟨j',hj',z⟩
    ·exact w1.nr a (List.mem_append_right _ m) z
    ·exact hrd.2.2 a z a m rfl
    ·exact w1.rj j' a z (List.mem_append_right _ m)
  tr:=fun a m=>by
   rcases List.mem_append.mp m with m | m
   ·obtain ⟨j,_,hj,mj⟩:=cM.mp m
    exact w1.own mj
   ·exact w1.tr a (List.mem_append_right _ m)
  ft:=fun a z=>by
   rcases z with z | z | ⟨j,hj,z⟩
   ·exact w1.ft a z
   ·obtain ⟨xs,e⟩:=w1.tr a (List.mem_append_left _ z);rw [e];simp
   ·obtain ⟨xs,e⟩:=w1.own z;rw [e];simp }
 refine ⟨hlen,_,_,_,_,_,w2,fun j hj=>if_neg (hj rfl),q1,fun v H' r x F' Ls' Lr rr wr sr qr=>?_⟩
 obtain ⟨hc,qr⟩:=qr
 have keep:∀ a o,H1 a=some o->a ∉ Ls1 i->H' a=some o:=fun a o e n=>sr.keep a o e fun _ z=>n (l0 z).2
 have fresh:∀ a∈Lr,a∈Ls1 i∨H1 a=none:=fun a m=>(sr.srcD a m).imp (fun ⟨_,z⟩=>(l0 z).2) id
 have fresh0:∀ a∈Ls' 0,a∈Ls1 i∨H1 a=none:=fun a m=>(sr.src 0 a m).imp (fun ⟨_,z⟩=>(l0 z).2) id
 have cl:∀ {u:V} {y:D} {L:List Addr},Rp K F' H' u y L->(namsSh ρ1 as=true∨y.clean=true)->Rp K (fun a=>F' a ∧ ∀ j∈namsOf as,a ∉ Ls1 j) H' u y L:=fun {u y L} rr hc=>by
  rcases hc with hc | hc
  ·exact rr.mono (fun a h=>⟨h,fun j hj z=>by rw [kW w1 hc j hj] at z;simp at z⟩) (fun _ _ e _=>e) (fun _ _ _ e=>e) fun _ _ _ e=>e
  ·exact rr.clean hc
 rw [Bool.or_eq_true,Bool.and_eq_true] at hc
 have r3:=cl rr (hc.imp id (·.1))
 have hLr:=List.nodup_append.mp wr.rd
 have F13:∀ a,F1 a->F' a ∧ ∀ j∈namsOf as,a ∉ Ls1 j:=fun a h=>⟨sr.mono a (.inl h),fun j _ z=>w1.nf j a z h⟩
 have hpos:0<n:=by omega
 have hil:i < ρ1.length:=(List.getElem?_eq_some_iff.mp ei).1
 have src:∀ {j:Nat} {a:Addr},a∈jo Ls1 i (Ls' 0) j->(j=i∧a∈Ls' 0)∨(j≠i∧a∈Ls1 j):=fun {j a} m=>by
  by_cases c:j=i
  ·rw [c,aM] at m;exact .inl ⟨c,m⟩
  ·rw [aX c] at m;exact .inr ⟨c,m⟩
 have out:∀ {j:Nat} {a:Addr},j≠i->a∈Ls1 j->a ∉ Ls' 0∧a ∉ Lr:=fun {j a} c m=>by
  have h:a ∉ Ls1 i∧H1 a≠none:=⟨fun z=>c (w1.dj j i a m z),by obtain ⟨xs,e⟩:=w1.own m;rw [e];simp⟩
  exact ⟨fun z=>(fresh0 a z).elim h.1 h.2,fun z=>(fresh a z).elim h.1 h.2⟩
 refine kk v H' r (ρ1.set i x) (fun a=>F' a ∧ ∀ j∈namsOf as,a ∉ Ls1 j) (jo Ls1 i (Ls' 0)) Lr r3 ?_ ?_ qr
 ·exact {
   len:=by rw [List.length_set];exact w1.len
   sl:=fun j d e=>by
    by_cases c:j=i
    ·subst c
     rw [List.getElem?_set_self hil] at e
     have ex:x=some d:=Option.some.inj e
     obtain ⟨u,h1,h2⟩:=wr.sl 0 d (by rw [vg hpos,ex])
     have:u=v0:=by simpa using h1.symm
     subst this
     exact ⟨u,hv,by rw [aM];exact cl h2 (hc.imp id fun h=>by have:=h.2;rw [ex] at this;exact this)⟩
    ·rw [List.getElem?_set_ne (Ne.symm c)] at e
     obtain ⟨u,h1,h2⟩:=w1.sl j d e
     refine ⟨u,h1,?_⟩
     rw [aX c]
     refine h2.mono F13 (fun a o e st=>keep a o e fun z=>?_) (fun a o f e=>keep a o e fun z=>w1.nf i a z f) fun a ha o e=>keep a o e fun z=>c (w1.dj j i a ha z)
     obtain ⟨xs,q⟩:=w1.own z
     rw [e] at q;cases q;exact absurd st OL.no
   em:=fun j h=>by
    by_cases c:j=i
    ·subst c
     rw [aM]
     refine wr.em 0 fun d e=>h d ?_
     rw [vg hpos] at e
     rw [List.getElem?_set_self hil,Option.some.inj e]
    ·rw [aX c]
     exact w1.em j fun d e=>h d (by rw [List.getElem?_set_ne (Ne.symm c)];exact e)
   nd:=fun j=>by
    by_cases c:j=i
    ·rw [c,aM];exact wr.nd 0
    ·rw [aX c];exact w1.nd j
   dj:=fun j j' a h h'=>by
    rcases src h with ⟨c,m⟩ | ⟨c,m⟩
    ·rcases src h' with ⟨c',m'⟩ | ⟨c',m'⟩
     ·rw [c,c']
     ·exact absurd m (out c' m').1
    ·rcases src h' with ⟨c',m'⟩ | ⟨c',m'⟩
     ·exact absurd m' (out c m).1
     ·exact w1.dj j j' a m m'
   rd:=by
    rw [List.nodup_append]
    exact ⟨hLr.1,hrd.2.1,fun a ha b hb e=>hLr.2.2 a ha b (List.mem_append_right _ hb) e⟩
   rj:=fun j a m z=>by
    rcases src m with ⟨c,m⟩ | ⟨c,m⟩
    ·rcases List.mem_append.mp z with z | z
     ·exact wr.rj 0 a m (List.mem_append_left _ z)
     ·exact wr.rj 0 a m (List.mem_append_right _ (List.mem_append_right _ z))
    ·rcases List.mem_append.mp z with z | z
     ·exact (out c m).2 z
     ·exact w1.rj j a m (List.mem_append_right _ z)
   nf:=fun j a m z=>by
    rcases src m with ⟨c,m⟩ | ⟨c,m⟩
    ·exact wr.nf 0 a m z.1
    ·by_cases hj:j∈namsOf as
     ·exact z.2 j hj m
     ·exact wr.nr a (List.mem_append_right _ (List.mem_append_left _ (inR (fun q=>(List.mem_cons.mp q).elim c hj) m))) z.1
   nr:=fun a m z=>by
    rcases List.mem_append.mp m with m | m
    ·exact wr.nr a (List.mem_append_left _ m) z.1
    ·exact wr.nr a (List.mem_append_right _ (List.mem_append_right _ m)) z.1
   tr:=fun a m=>by
    rcases List.mem_append.mp m with m | m
    ·exact wr.tr a (List.mem_append_left _ m)
    ·exact wr.tr a (List.mem_append_right _ (List.mem_append_right _ m))
   ft:=fun a z=>wr.ft a z.1 }
 ·exact s1.trans ⟨fun a o e n=>keep a o e (n i),F13,fun j a m=>by
   rcases src m with ⟨c,m⟩ | ⟨c,m⟩
   ·exact (fresh0 a m).imp (fun z=>⟨i,z⟩) id
   ·exact .inl ⟨j,m⟩,fun a m=>(fresh a m).imp (fun z=>⟨i,z⟩) id⟩
theorem Jl (F:FnOk X.prog X.w X.K X.mg X.base CX k f fd ps (aZ X.K n false sf)) (hr:Room k X.A) (hg:Gl X x) (hm:X.mg x=some (.ref f)) (hk:PySem.W.keepIn X.K (.ref f)=true) (hb:Binds X.K fd ps []) (hx:qY CX X E) (ha:SA X (e :: es) os)
  (hdb:(x==("__debug__" : Str))=false:=by decide) (he:starEach (e :: es) X.env=(false,eval e X.env) :: starEach es X.env:=by rfl) (hpl:(backTo pos (starEach es X.env)).any (·.1)=false:=by rfl) :
  SE X (.Call (.Name x p) (e :: es) [] pos) (aF n sf os):=
 (Bc F hr hg hm hk hb .nil hx ha hdb he hpl).wk fun σ H Q h=>Jx h
theorem GF {i:Nat} (F:FnOk X.prog X.w X.K X.mg X.base CX k f fd ps (aZ X.K n true sf)) (hr:Room k X.A) (hg:Gl X x) (hm:X.mg x=some (.ref f)) (hk:PySem.W.keepIn X.K (.ref f)=true) (hb:Binds X.K fd ps []) (hx:qY CX X E) (ha:SA X (e :: es) (.nam i :: os))
  (hdb:(x==("__debug__" : Str))=false:=by decide) (he:starEach (e :: es) X.env=(false,eval e X.env) :: starEach es X.env:=by rfl) (hpl:(backTo pos (starEach es X.env)).any (·.1)=false:=by rfl) :
  SE X (.Call (.Name x p) (e :: es) [] pos) (aA n sf i os):=
 (Bc F hr hg hm hk hb .nil hx ha hdb he hpl).wk fun σ H Q h=>Hb h
end
end L2
namespace L2
open PySem PySem.Spec PyProof.Rows
section
variable {K:PySem.W.Frag} {F:Addr->Prop} {H:Hp} {σ : St} {ρ : En} {Ls:Nat->List Addr} {R:List Addr}
theorem Rps.off {vs:List V} {ds:List D} {L:List Addr} {a:Addr} {xs xs':List V} (r:Rps K F H vs ds L) (ha:H a=some (.lst xs)) (hf:¬ F a) (hL:a ∉ L):Rps K F (upd H a (.lst xs')) vs ds L:=by
 refine r.mono (fun _ h=>h) (fun b o e st=>?_) (fun b o f e=>?_) fun b hb o e=>?_
 ·rw [bG (fun z=>by subst z;rw [ha] at e;cases e;exact st)];exact e
 ·rw [bG (fun z=>by subst z;exact hf f)];exact e
 ·rw [bG (fun z=>by subst z;exact hL hb)];exact e
theorem Rp.off {v:V} {d:D} {L:List Addr} {a:Addr} {xs xs':List V} (r:Rp K F H v d L) (ha:H a=some (.lst xs)) (hf:¬ F a) (hL:a ∉ L):Rp K F (upd H a (.lst xs')) v d L:=by
 refine r.mono (fun _ h=>h) (fun b o e st=>?_) (fun b o f e=>?_) fun b hb o e=>?_
 ·rw [bG (fun z=>by subst z;rw [ha] at e;cases e;exact st)];exact e
 ·rw [bG (fun z=>by subst z;exact hf f)];exact e
 ·rw [bG (fun z=>by subst z;exact hL hb)];exact e
theorem WS.mut {i:Nat} {a:Addr} {v:V} {d d':D} {L' l R':List Addr} {xs xs':List V} (w:WS K F H σ ρ Ls R) (e : ρ[i]? = some (some d)) (hv : σ[i]? = some (some v)) (ha:H a=some (.lst xs)) (haL:a∈Ls i)
  (r':Rp K F (upd H a (.lst xs')) v d' L') (hp:(L'++R'++l).Perm (Ls i++R)):WS K F (upd H a (.lst xs')) σ (ρ.set i (some d')) (jo Ls i L') R':=by
 have hi:i < ρ.length:=(List.getElem?_eq_some_iff.mp e).1
 have ndI:(Ls i++R).Nodup:=List.nodup_append.mpr ⟨w.nd i,w.rd,fun x hx y hy z=>by subst z;exact w.rj i x hx hy⟩
 have ndA:(L'++R'++l).Nodup:=hp.nodup_iff.mpr ndI
 have ndB:=(List.nodup_append.mp ndA).1
 have mem:∀ b,b∈L'++R'->b∈Ls i∨b∈R:=fun b hb=>List.mem_append.mp (hp.mem_iff.mp (List.mem_append_left _ hb))
 have naF:¬ F a:=w.nf i a haL
 have src:∀ {j:Nat} {b:Addr},b∈jo Ls i L' j->(j=i∧b∈L')∨(j≠i∧b∈Ls j):=fun {j b} m=>by
  by_cases c:j=i
  ·rw [c,aM] at m;exact .inl ⟨c,m⟩
  ·rw [aX c] at m;exact .inr ⟨c,m⟩
 have apart:∀ {j:Nat} {b:Addr},j≠i->b∈Ls j->b ∉ L'++R':=fun {j b} c m z=>(mem b z).elim (fun q=>c (w.dj j i b m q)) fun q=>w.rj j b m q
 exact {
  len:=by rw [List.length_set];exact w.len
  sl:=fun j d2 e2=>by
   by_cases c:j=i
   ·subst c
    rw [List.getElem?_set_self hi] at e2
    cases e2
    exact ⟨v,hv,by rw [aM];exact r'⟩
   ·rw [List.getElem?_set_ne (Ne.symm c)] at e2
    obtain ⟨u,h1,h2⟩:=w.sl j d2 e2
    exact ⟨u,h1,by rw [aX c];exact h2.off ha naF fun z=>c (w.dj j i a z haL)⟩
  em:=fun j h=>by
   by_cases c:j=i
   ·subst c;exact absurd (List.getElem?_set_self hi) (h d')
   ·rw [aX c];exact w.em j fun d2 z=>h d2 (by rw [List.getElem?_set_ne (Ne.symm c)];exact z)
  nd:=fun j=>by
   by_cases c:j=i
   ·rw [c,aM];exact (List.nodup_append.mp ndB).1
   ·rw [aX c];exact w.nd j
  dj:=fun j j' b h h'=>by
   rcases src h with ⟨c,m⟩ | ⟨c,m⟩
   ·rcases src h' with ⟨c',m'⟩ | ⟨c',m'⟩
    ·rw [c,c']
    ·exact absurd (List.mem_append_left _ m) (apart c' m')
   ·rcases src h' with ⟨c',m'⟩ | ⟨c',m'⟩
    ·exact absurd (List.mem_append_left _ m') (apart c m)
    ·exact w.dj j j' b m m'
  rd:=(List.nodup_append.mp ndB).2.1
  rj:=fun j b m z=>by
   rcases src m with ⟨c,m⟩ | ⟨c,m⟩
   ·exact (List.nodup_append.mp ndB).2.2 b m b z rfl
   ·exact apart c m (List.mem_append_right _ z)
  nf:=fun j b m z=>by
   rcases src m with ⟨c,m⟩ | ⟨c,m⟩
   ·exact (mem b (List.mem_append_left _ m)).elim (fun q=>w.nf i b q z) fun q=>w.nr b q z
   ·exact w.nf j b m z
  nr:=fun b m z=>(mem b (List.mem_append_right _ m)).elim (fun q=>w.nf i b q z) fun q=>w.nr b q z
  tr:=fun b m=>by
   by_cases c:b=a
   ·subst c;exact ⟨.l xs',cD⟩
   ·rw [bG c]
    exact (mem b (List.mem_append_right _ m)).elim (fun q=>w.own q) fun q=>w.tr b q
  ft:=fun b z=>by
   by_cases c:b=a
   ·subst c;rw [cD];simp
   ·rw [bG c];exact w.ft b z }
theorem Step.mut {F1:Addr->Prop} {H1:Hp} {Ls1:Nat->List Addr} {Ld L' Lr:List Addr} {i:Nat} {a:Addr} {xs':List V} (s:Step F H Ls F1 H1 Ls1 Ld) (haL:a∈Ls1 i) (hs:∀ b∈L'++Lr,b∈Ls1 i∨b∈Ld) :
  Step F H Ls F1 (upd H1 a (.lst xs')) (jo Ls1 i L') Lr:=by
 have back:∀ b∈L'++Lr,(∃ j,b∈Ls j)∨H b=none:=fun b m=>(hs b m).elim (s.src i b) (s.srcD b)
 refine ⟨fun b o e n=>?_,s.mono,fun j b m=>?_,fun b m=>back b (List.mem_append_right _ m)⟩
 ·rw [bG (fun z=>by
   subst z
   rcases s.src i b haL with ⟨j,q⟩ | q
   ·exact n j q
   ·rw [e] at q;cases q)]
  exact s.keep b o e n
 ·by_cases c:j=i
  ·rw [c,aM] at m;exact back b (List.mem_append_left _ m)
  ·rw [aX c] at m;exact s.src j b m
end
abbrev wj:=List D->List D->Option (List D×D)
def lQ (r:V->List V->Hp->VK->Prop) (g:wj):Prop:=
 ∀ (K:PySem.W.Frag) (F:Addr->Prop) (H:Hp) (a:Addr) (vs us:List V) (ds es ds':List D) (rd:D) (M La:List Addr) (Q:VK),H a=some (.lst vs)->Rps K F H vs ds M->Rps K F H us es La->g ds es=some (ds',rd) ->
  (∀ vs' M' vr Lr l,Rps K F H vs' ds' M'->Rp K F H vr rd Lr->(M'++Lr++l).Perm (M++La)->Q vr (upd H a (.lst vs')))->r (.ref a) us H Q
def lW (g:wj) (i:Nat) (os:List Opd):bA:=fun ρ Q=>(∃ o ds,ρ[i]? = some (some (.lst o ds)))∧dq os ρ fun as ρ'=>∃ ds es ds' rd,ρ'[i]? = some (some (.lst true ds))∧bc ρ' as=some es∧namsSh ρ' as=true∧g ds es=some (ds',rd)∧Q rd (ρ'.set i (some (.lst true ds')))
section
variable {X:Cx} {K:PySem.W.Frag} {σ : St} {H:Hp} {os:List Opd} {i:Nat} {g:wj} {r:V->List V->Hp->VK->Prop}
theorem Nr {Q:VK} (hg:lQ r g) {x:V} (hx : σ[i]? = some (some x)) (h:iI K (lW g i os) σ H Q):pQ K os σ H fun xs H2=>r x xs H2 Q:=by
 obtain ⟨F,ρ,Ls,R,Qd,w,⟨_,q⟩,k⟩:=h
 refine ⟨F,ρ,Ls,R,_,w,q,fun us H1 as ρ1 F1 Ls1 La r1 w1 s1 ⟨ds,es,ds',rd,e0,e1,e2,e3,q1⟩=>?_⟩
 obtain ⟨v,hv,rv⟩:=w1.sl i _ e0
 rw [hx] at hv
 cases hv
 have ra:=r1.all w1 e1 e2
 generalize hLi:Ls1 i=Li at rv
 cases rv with
 | @own a vs _ M ha rs=>
  refine hg K F1 H1 a vs us ds es ds' rd M La Q ha rs ra e3 fun vs' M' vr Lr l rs' rr hp=>?_
  have haL:a∈Ls1 i:=by rw [hLi];exact List.mem_cons_self
  have naF:¬ F1 a:=w1.nf i a haL
  have nodup:(a :: M++(La++R)).Nodup:=by rw [← hLi];exact List.nodup_append.mpr ⟨w1.nd i,w1.rd,fun x hx y hy z=>by subst z;exact w1.rj i x hx hy⟩
  have na:a ∉ M'++Lr:=fun z=>by
   have:a∈M++La:=hp.mem_iff.mp (List.mem_append_left _ z)
   have h2:=(List.nodup_cons.mp (show (a :: (M++(La++R))).Nodup from nodup)).1
   rw [← List.append_assoc] at h2
   exact h2 (List.mem_append_left _ this)
  have hp2:(a :: M'++(Lr++R)++l).Perm (Ls1 i++(La++R)):=by
   rw [hLi]
   refine List.Perm.cons a ?_
   have:(M'++(Lr++R)++l).Perm (M'++Lr++l++R):=by
    rw [List.append_assoc,List.append_assoc,List.append_assoc,List.append_assoc]
    exact (List.Perm.refl M').append ((List.Perm.refl Lr).append List.perm_append_comm)
   refine this.trans ?_
   show List.Perm _ (M++(La++R))
   rw [← List.append_assoc M La R]
   exact hp.append_right R
  refine k vr _ rd _ F1 (jo Ls1 i (a :: M')) Lr (rr.off ha naF fun z=>na (List.mem_append_right _ z)) (w1.mut e0 hx ha haL (.own cD (rs'.off ha naF fun z=>na (List.mem_append_left _ z))) hp2) (s1.mut haL fun b hb=>?_) q1
  rw [hLi]
  rcases List.mem_append.mp hb with hb | hb
  ·rcases List.mem_cons.mp hb with rfl | hb
   ·exact .inl List.mem_cons_self
   ·exact (List.mem_append.mp (hp.mem_iff.mp (List.mem_append_left _ (List.mem_append_left _ hb)))).imp (List.mem_cons_of_mem _) id
  ·exact (List.mem_append.mp (hp.mem_iff.mp (List.mem_append_left _ (List.mem_append_right _ hb)))).imp (List.mem_cons_of_mem _) id
theorem LK {Q:VK} (h:iI K (lW g i os) σ H Q):∃ x,σ[i]? = some (some x)∧tyV K "list" x H:=by
 obtain ⟨F,ρ,Ls,R,Qd,w,⟨⟨o,ds,e⟩,q⟩,k⟩:=h
 obtain ⟨v,hv,rv⟩:=w.sl i _ e
 obtain ⟨a,vs,M,rfl,ha,_⟩:=rv.lst_at
 exact ⟨_,hv,.inl ⟨rfl,_,.of ha⟩⟩
theorem sZ {x name:Str} {id:String} {e:Expr} {es:List Expr} {p apos cpos:Pos} (slot:Slot "list" name id) (hty:typeOf (.builtin id)=pure (.type "method_descriptor")) (hm:MtM X id r) (hg:lQ r g)
  (hN:X.N[i]? = some x) (hv:Vis X.env.scope x) (ha:SA X (e :: es) os) (hd:(x==("__debug__" : Str))=false:=by decide) (hcd:(x==("__classdict__" : Str))=false:=by decide)
  (hbase:attributeBase (.Name x p) name X.env (eval (.Name x p) X.env)=eval (.Name x p) X.env:=by rfl)
  (hfew:((backTo cpos (starEach (e :: es) X.env)).all (fun x=>!x.1)&&(backToKw cpos (keywordEach [] X.env)).all (fun x=>x.1.isSome)
   && decide ((e :: es).length+([]:List Keyword).length+(if ([]:List Keyword).isEmpty then 0 else 1)<30))=true:=by rfl)
  (hline:(apos.endLine==cpos.line)=true:=by rfl) (hs:starEach (e :: es) X.env=(false,eval e X.env) :: starEach es X.env:=by rfl) (hplain:(backTo cpos (starEach es X.env)).any (·.1)=false:=by rfl) :
  SE X (.Call (.Attribute (.Name x p) name apos) (e :: es) [] cpos) (lW g i os):=
 (Ou PySem.F.plainAttrs_list slot hty hm (pI hN hv hd hcd) ha hbase hfew hline hs hplain).wk fun σ H Q h=>by
  obtain ⟨v,hv,ty⟩:=LK h
  exact ⟨v,hv,ty,Nr hg hv h⟩
end
theorem Rps.split {K:PySem.W.Frag} {F:Addr->Prop} {H:Hp}:∀ {vs:List V} {ds:List D} {L:List Addr} {k:Nat} {d:D},Rps K F H vs ds L->ds[k]? = some d -> ∃ v L1 Lk L2,L=L1++(Lk++L2)∧vs[k]? = some v∧Rp K F H v d Lk ∧
  Rps K F H (vs.eraseIdx k) (ds.eraseIdx k) (L1++L2) ∧ ∀ v' d' Lk',Rp K F H v' d' Lk'->Rps K F H (vs.set k v') (ds.set k d') (L1++(Lk'++L2))
 | _,_,_,k,d,.nil,e=>by simp at e
 | _,_,_,0,d,.cons (L:=L) (M:=M) r rs,e=>by
  simp at e
  subst e
  exact ⟨_,[],L,M,rfl,rfl,r,rs,fun v' d' Lk' r'=>by rw [List.nil_append];exact .cons r' rs⟩
 | _,_,_,k+1,d,.cons (L:=L) (M:=M) r rs,e=>by
  obtain ⟨v,L1,Lk,L2,rfl,h1,h2,h3,h4⟩:=Rps.split (k:=k) rs (by simpa using e)
  refine ⟨v,L++L1,Lk,L2,by rw [List.append_assoc],by simpa using h1,h2,?_,fun v' d' Lk' r'=>?_⟩
  ·rw [List.append_assoc];exact .cons r h3
  ·rw [List.append_assoc];exact .cons r (h4 v' d' Lk' r')
theorem Rps.cut {K:PySem.W.Frag} {F:Addr->Prop} {H:Hp}:∀ {vs:List V} {ds:List D} {L:List Addr} (k:Nat),Rps K F H vs ds L -> ∃ L1 L2,L=L1++L2∧Rps K F H (vs.take k) (ds.take k) L1∧Rps K F H (vs.drop k) (ds.drop k) L2
 | _,_,_,0,r=>⟨[],_,rfl,.nil,r⟩
 | _,_,_,k+1,.nil=>⟨[],[],rfl,.nil,.nil⟩
 | _,_,_,k+1,.cons (L:=L) r rs=>by
  obtain ⟨L1,L2,rfl,h1,h2⟩:=Rps.cut k rs
  exact ⟨L++L1,L2,by rw [List.append_assoc],.cons r h1,h2⟩
theorem Rps.rev {K:PySem.W.Frag} {F:Addr->Prop} {H:Hp}:∀ {vs:List V} {ds:List D} {L:List Addr},Rps K F H vs ds L -> ∃ L',L'.Perm L∧Rps K F H vs.reverse ds.reverse L'
 | _,_,_,.nil=>⟨[],.refl _,.nil⟩
 | _,_,_,.cons (L:=L) (M:=M) r rs=>by
  obtain ⟨M',p,h⟩:=Rps.rev rs
  rw [List.reverse_cons,List.reverse_cons]
  refine ⟨M'++(L++[]),?_,h.append (.cons r .nil)⟩
  rw [List.append_nil]
  exact List.perm_append_comm.trans ((List.Perm.refl L).append p)
theorem Rps.one {K:PySem.W.Frag} {F:Addr->Prop} {H:Hp} {us:List V} {d:D} {L:List Addr} (r:Rps K F H us [d] L):∃ u,us=[u]∧Rp K F H u d L:=by
 cases r with
 | cons r rs=>cases rs with
  | nil=>exact ⟨_,rfl,by rw [List.append_nil];exact r⟩
theorem Rps.two {K:PySem.W.Frag} {F:Addr->Prop} {H:Hp} {us:List V} {d e:D} {L:List Addr} (r:Rps K F H us [d,e] L):∃ u v L1 L2,us=[u,v]∧L=L1++L2∧Rp K F H u d L1∧Rp K F H v e L2:=by
 cases r with
 | cons r rs=>
  obtain ⟨v,rfl,r2⟩:=rs.one
  exact ⟨_,_,_,_,rfl,rfl,r,r2⟩
def gG:wj:=fun ds es=>match es with | [e]=>if ds.length<sizeLine then some (ds++[e],.non) else none | _=>none
theorem oW:lQ Bo gG:=by
 intro K F H a vs us ds es ds' rd M La Q ha rs ra e q
 unfold gG at e
 split at e
 ·split at e
  ·rename_i hz
   cases e
   obtain ⟨u,rfl,ru⟩:=ra.one
   exact ⟨a,vs,u,rfl,rfl,ha,by rw [rs.length];exact hz,q _ _ _ [] [] (rs.append (.cons ru .nil)) .non (by simp)⟩
  ·cases e
 ·cases e
def rJ (n:Nat) (x:Int):Nat:=if x<0 then (x+n).toNat else min x.toNat n
def jx:wj:=fun ds es=>match es with
 | [.int k,e]=>if (decide (-(2 ^ 63:Int)<=k)&&decide (k<2 ^ 63)&&decide (ds.length<sizeLine))=true then some (ds.take (rJ ds.length k)++e :: ds.drop (rJ ds.length k),.non) else none
 | _=>none
def Bp:V->List V->Hp->VK->Prop:=fun x vs H Q=>∃ l xs k y,x = .ref l∧vs=[.int k,y]∧H l=some (.lst xs)∧(-(2 ^ 63:Int)<=k∧k<2 ^ 63)∧xs.length<sizeLine∧Q .non (upd H l (.lst (xs.take (rJ xs.length k)++y :: xs.drop (rJ xs.length k))))
theorem uD {X:Cx}:MtM X "list.insert" Bp:=by
 intro pins s σ H x vs v us Q I rx rv h
 obtain ⟨l,xs,k,y,rfl,rfl,hH,hk,hz,q⟩:=h
 cases rx
 obtain ⟨u1,u,rfl,r1,ru⟩:=rv.two
 obtain ⟨t,rfl⟩:=r1
 obtain ⟨z,its,n,r,hl,e⟩:=I.lstM hH
 have hf:Builtin.List.listFitsIndex k=true:=by unfold Builtin.List.listFitsIndex;simp;exact hk
 refine call_meets PySem.F.slot_list_insert ⟨_,e,rfl⟩ PySem.F.entry_list_insert (PySem.F.args_list_insert_3 _ _ _) (PySem.AutoSeq1.list_insert_list_int_val_1 l its.toArray n k t u (by simp [hf]) (by rw [List.size_toArray];omega)) ⟨e,?_⟩
 refine ⟨.non,_,I.lset (its':=its.take (rJ its.length k)++u :: its.drop (rJ its.length k)) hH e ?_ (by rw [← hl];exact (r.take _).append (.cons ru (r.drop _))) ?_,rfl,q⟩
 ·show (its.toArray.extract 0 (if k<0 then (k+(its.toArray.size:Int)).toNat else min k.toNat its.toArray.size)).push u++its.toArray.extract (if k<0 then (k+(its.toArray.size:Int)).toNat else min k.toNat its.toArray.size)=_
  rw [List.size_toArray]
  show (its.toArray.extract 0 (rJ its.length k)).push u++its.toArray.extract (rJ its.length k)=_
  simp
  exact List.take_of_length_le (by rw [List.length_drop];omega)
 ·rw [List.length_append,List.length_cons,List.length_take,List.length_drop]
  omega
theorem ux:lQ Bp jx:=by
 intro K F H a vs us ds es ds' rd M La Q ha rs ra e q
 unfold jx at e
 split at e
 ·split at e
  ·rename_i hz
   cases e
   rw [Bool.and_eq_true,Bool.and_eq_true,decide_eq_true_eq,decide_eq_true_eq,decide_eq_true_eq] at hz
   obtain ⟨u,v,L1,L2,rfl,rfl,r1,r2⟩:=ra.two
   cases r1
   obtain ⟨M1,M2,rfl,h1,h2⟩:=rs.cut (rJ ds.length _)
   refine ⟨a,vs,_,v,rfl,rfl,ha,hz.1,by rw [rs.length];exact hz.2,?_⟩
   rw [rs.length]
   refine q _ _ _ [] [] (h1.append (.cons r2 h2)) .non ?_
   rw [List.append_nil,List.append_nil,List.nil_append,List.append_assoc]
   exact (List.Perm.refl M1).append List.perm_append_comm
  ·cases e
 ·cases e
def Pr:V->List V->Hp->VK->Prop:=fun x us H Q=>∃ i v,us=[i,v]∧GC x i v H fun H'=>Q .non H'
def Ly:wj:=fun ds es=>match es with
 | [.int k,e]=>(ixN ds.length k).map fun j=>(ds.set j e,.non)
 | _=>none
theorem KC:lQ Pr Ly:=by
 intro K F H a vs us ds es ds' rd M La Q ha rs ra e q
 unfold Ly at e
 split at e
 ·obtain ⟨j,ej,e1⟩:=Option.map_eq_some_iff.mp e
  cases e1
  obtain ⟨u,v,L1,L2,rfl,rfl,r1,r2⟩:=ra.two
  cases r1
  obtain ⟨_,hj,_⟩:=vh ej
  obtain ⟨w,N1,Nk,N2,rfl,h1,h2,_,h4⟩:=rs.split (List.getElem?_eq_getElem hj)
  refine ⟨_,v,rfl,a,vs,_,j,rfl,rfl,ha,by rw [rs.length];exact ej,q _ _ _ [] Nk (h4 v _ L2 r2) .non ?_⟩
  rw [List.append_nil,List.nil_append,List.append_assoc,List.append_assoc,List.append_assoc]
  refine (List.Perm.refl N1).append ?_
  rw [← List.append_assoc]
  refine List.perm_append_comm.trans ?_
  rw [List.append_assoc]
  exact (List.Perm.refl Nk).append List.perm_append_comm
 ·cases e
end L2
namespace L2
open PySem PySem.Spec PyProof.Rows
section
variable {X:Cx} {K:PySem.W.Frag} {F F1:Addr->Prop} {H H1:Hp} {σ : St} {ρ ρ1:En} {Ls Ls1:Nat->List Addr} {R La:List Addr} {i:Nat} {g:wj} {r:V->List V->Hp->VK->Prop}
theorem Fx {Q:VK} {x:V} {us:List V} {ds es ds':List D} {rd:D} (hg:lQ r g) (hx : σ[i]? = some (some x)) (e0 : ρ1[i]? = some (some (.lst true ds))) (ra:Rps K F1 H1 us es La) (e3:g ds es=some (ds',rd))
  (w1:WS K F1 H1 σ ρ1 Ls1 (La++R)) (s1:Step F H Ls F1 H1 Ls1 La)
  (k:∀ vr H' Ls' Lr,Rp K F1 H' vr rd Lr->WS K F1 H' σ (ρ1.set i (some (.lst true ds'))) Ls' (Lr++R)->Step F H Ls F1 H' Ls' Lr->Q vr H'):r x us H1 Q:=by
 obtain ⟨v,hv,rv⟩:=w1.sl i _ e0
 rw [hx] at hv
 cases hv
 generalize hLi:Ls1 i=Li at rv
 cases rv with
 | @own a vs _ M ha rs=>
  refine hg K F1 H1 a vs us ds es ds' rd M La Q ha rs ra e3 fun vs' M' vr Lr l rs' rr hp=>?_
  have haL:a∈Ls1 i:=by rw [hLi];exact List.mem_cons_self
  have naF:¬ F1 a:=w1.nf i a haL
  have nodup:(a :: M++(La++R)).Nodup:=by rw [← hLi];exact List.nodup_append.mpr ⟨w1.nd i,w1.rd,fun x hx y hy z=>by subst z;exact w1.rj i x hx hy⟩
  have na:a ∉ M'++Lr:=fun z=>by
   have:a∈M++La:=hp.mem_iff.mp (List.mem_append_left _ z)
   have h2:=(List.nodup_cons.mp (show (a :: (M++(La++R))).Nodup from nodup)).1
   rw [← List.append_assoc] at h2
   exact h2 (List.mem_append_left _ this)
  have hp2:(a :: M'++(Lr++R)++l).Perm (Ls1 i++(La++R)):=by
   rw [hLi]
   refine List.Perm.cons a ?_
   have:(M'++(Lr++R)++l).Perm (M'++Lr++l++R):=by
    rw [List.append_assoc,List.append_assoc,List.append_assoc,List.append_assoc]
    exact (List.Perm.refl M').append ((List.Perm.refl Lr).append List.perm_append_comm)
   refine this.trans ?_
   show List.Perm _ (M++(La++R))
   rw [← List.append_assoc M La R]
   exact hp.append_right R
  refine k vr _ (jo Ls1 i (a :: M')) Lr (rr.off ha naF fun z=>na (List.mem_append_right _ z)) (w1.mut e0 hx ha haL (.own cD (rs'.off ha naF fun z=>na (List.mem_append_left _ z))) hp2) (s1.mut haL fun b hb=>?_)
  rw [hLi]
  rcases List.mem_append.mp hb with hb | hb
  ·rcases List.mem_cons.mp hb with rfl | hb
   ·exact .inl List.mem_cons_self
   ·exact (List.mem_append.mp (hp.mem_iff.mp (List.mem_append_left _ (List.mem_append_left _ hb)))).imp (List.mem_cons_of_mem _) id
  ·exact (List.mem_append.mp (hp.mem_iff.mp (List.mem_append_left _ (List.mem_append_right _ hb)))).imp (List.mem_cons_of_mem _) id
end
def sX (i:Nat) (se:bA) (oi:Opd):cP:=fun ρ E=>(∃ d,ρ[i]? = some (some d))∧dq [.val se,oi] ρ fun as ρ'=>∃ d a ds k j,as=[.val d,a]∧a.get ρ'=some (.int k) ∧ ρ'[i]? = some (some (.lst true ds))∧ixN ds.length k=some j ∧
 E.nx (ρ'.set i (some (.lst true (ds.set j d))))
section
variable {X:Cx} {kp:Nat->Bool} {pos:Pos}
theorem Ae {K:PySem.W.Frag} {F:Addr->Prop} {H:Hp} {σ : St} {ρ : En} {Ls:Nat->List Addr} {R La:List Addr} (w:WS K F H σ ρ Ls R) {v:V} {a:AD} {k:Int} (r:RpA K F H σ [v] [a] La) (e:a.get ρ = some (.int k)):v = .int k:=by
 obtain ⟨x,L,e1,r1⟩:=(r.at w (ds:=[.int k]) (by rw [bc,e];rfl)).one
 cases e1
 exact r1.isInt
theorem yx {i:Nat} {x:Str} {idx e:Expr} {se:bA} {oi:Opd} {p pos':Pos} (hN:X.N[i]? = some x) (hv:Vis X.env.scope x) (he:SE X e se) (hi:SO X idx oi) (hd:(x==("__debug__" : Str))=false:=by decide) (hcd:(x==("__classdict__" : Str))=false:=by decide)
  (ha:∀ v,assign (.Subscript (.Name x p) idx pos') X.env v=(do
   let ov ← holding [v] (eval (.Name x p) X.env)
   let iv ← holding [v,ov] (eval idx X.env)
   standAt pos'
   holding [v,ov,iv] (setItem ov iv v)
   release [v,ov,iv] []):=by intro _;rfl)
  (hs:swapsWithSole [.Subscript (.Name x p) idx pos'] e pos.line X.env=pure false:=by rfl) (hw:swappedStores [.Subscript (.Name x p) idx pos'] e X.env=pure none:=by rfl)
  (h1:(assignEach [.Subscript (.Name x p) idx pos'] X.env).map (·.2)=[assign (.Subscript (.Name x p) idx pos') X.env]:=by rfl):SS X kp (.Assign [.Subscript (.Name x p) idx pos'] e pos) (sX i se oi):=
 (Gu he (Mu (pI hN hv hd hcd) hi set_list ha) hs hw h1).wk fun D σ H ⟨F,ρ,Ls,R,E,w,⟨⟨d0,e0⟩,q⟩,pe⟩=>by
  obtain ⟨v0,hv0,_⟩:=w.sl i d0 e0
  have t:pQ X.K [.val se,oi] σ H fun vs H2=>∃ v k,vs=[v,k]∧GC v0 k v H2 fun H3=>D.nx σ H3:=by
   refine ⟨F,ρ,Ls,R,_,w,q,fun vs H1 as ρ1 F1 Ls1 La r1 w1 s1 ⟨d,a,ds,k,j,ea,ek,ed,ej,q1⟩=>?_⟩
   subst ea
   cases r1 with
   | @val v vs _ _ L M rd rk=>
    obtain ⟨kv,rfl⟩:∃ kv,vs=[kv]:=by
     cases rk with
     | val _ z=>cases z;exact ⟨_,rfl⟩
     | nam _ z=>cases z;exact ⟨_,rfl⟩
    have hk:=Ae w1 rk ek
    subst hk
    have hM:M=[]∨True:=.inr trivial
    refine ⟨v,.int k,rfl,?_⟩
    have w2:WS X.K F1 H1 σ ρ1 Ls1 (L++R):=w1.less ((List.sublist_append_left L M).append (List.Sublist.refl R))
    have s2:Step F H Ls F1 H1 Ls1 L:=s1.more fun a ha=>s1.srcD a (List.mem_append_left _ ha)
    obtain ⟨i',v',eu,rr⟩:=Fx (Q:=fun _ H'=>D.nx σ H') (us:=[.int k,v]) (es:=[.int k,d]) (ds':=ds.set j d) (rd:=.non) KC hv0 ed (.cons (L:=[]) (.int k) (by have z:=Rps.cons rd (.nil (K:=X.K) (F:=F1) (H:=H1));rw [List.append_nil] at z;exact z)) (by simp [Ly,ej]) w2 s2 fun vr H' Ls' Lr rr w' s'=>by
     exact pe.nx σ H' _ F1 Ls' (w'.less (List.sublist_append_right _ _)) (s'.more fun a h=>absurd h (by simp)) (fun _ _=>rfl) q1
    cases eu
    exact rr
  have t1:=dm t
  refine vW t1 fun v H1 t2=>⟨v0,hv0,?_⟩
  refine iC (fun k H2 t3=>?_) (dm t2)
  obtain ⟨F,ρ,Ls,R,Qd,w,q,kk⟩:=t3
  obtain ⟨v',k',e',q'⟩:=kk [] H2 [] ρ F Ls [] .nil w Step.refl q
  cases e'
  exact q'
end
def Bt (i:Nat):cP:=fun ρ E=>∃ d,ρ[i]? = some (some d)∧E.rt d (ρ.set i none)
section
variable {X:Cx} {kp:Nat->Bool} {pos:Pos} {K:PySem.W.Frag} {F:Addr->Prop} {H:Hp} {σ : St} {ρ : En} {Ls:Nat->List Addr} {R:List Addr}
theorem WS.take {i:Nat} {d:D} (w:WS K F H σ ρ Ls R) (e : ρ[i]? = some (some d)):WS K F H σ (ρ.set i none) (jo Ls i []) (Ls i++R):=by
 have hi:i < ρ.length:=(List.getElem?_eq_some_iff.mp e).1
 have src:∀ {j:Nat} {b:Addr},b∈jo Ls i [] j->j≠i∧b∈Ls j:=fun {j b} m=>by
  by_cases c:j=i
  ·rw [c,aM] at m;simp at m
  ·rw [aX c] at m;exact ⟨c,m⟩
 exact {
  len:=by rw [List.length_set];exact w.len
  sl:=fun j d' e'=>by
   by_cases c:j=i
   ·subst c;rw [List.getElem?_set_self hi] at e';cases e'
   ·rw [List.getElem?_set_ne (Ne.symm c)] at e'
    obtain ⟨u,h1,h2⟩:=w.sl j d' e'
    exact ⟨u,h1,by rw [aX c];exact h2⟩
  em:=fun j h=>by
   by_cases c:j=i
   ·rw [c,aM]
   ·rw [aX c];exact w.em j fun d' z=>h d' (by rw [List.getElem?_set_ne (Ne.symm c)];exact z)
  nd:=fun j=>by
   by_cases c:j=i
   ·rw [c,aM];exact List.nodup_nil
   ·rw [aX c];exact w.nd j
  dj:=fun j j' a h h'=>w.dj j j' a (src h).2 (src h').2
  rd:=List.nodup_append.mpr ⟨w.nd i,w.rd,fun x hx y hy z=>by subst z;exact w.rj i x hx hy⟩
  rj:=fun j a h z=>by
   obtain ⟨c,m⟩:=src h
   rcases List.mem_append.mp z with z | z
   ·exact c (w.dj j i a m z)
   ·exact w.rj j a m z
  nf:=fun j a h=>w.nf j a (src h).2
  nr:=fun a z=>by
   rcases List.mem_append.mp z with z | z
   ·exact w.nf i a z
   ·exact w.nr a z
  tr:=fun a z=>by
   rcases List.mem_append.mp z with z | z
   ·exact w.own z
   ·exact w.tr a z
  ft:=w.ft }
theorem Jt {i:Nat} {x:Str} {p:Pos} (hf0:Hm kp i) (hN:X.N[i]? = some x) (hv:Vis X.env.scope x) (hd:(x==("__debug__" : Str))=false:=by decide) (hcd:(x==("__classdict__" : Str))=false:=by decide):SS X kp (.Return (some (.Name x p)) pos) (Bt i):=
 (Gv (pI hN hv hd hcd)).wk fun D σ H ⟨F,ρ,Ls,R,E,w,⟨d,e,q⟩,pe⟩=>by
  obtain ⟨v,hv,r⟩:=w.sl i d e
  refine ⟨v,hv,pe.rt v σ H d _ F _ (Ls i) r (w.take e) ⟨fun _ _ e _=>e,fun _ h=>h,fun j a m=>?_,fun a m=>.inl ⟨i,m⟩⟩ (fun _ _=>rfl) q⟩
  by_cases c:j=i
  ·rw [c,aM] at m;simp at m
  ·rw [aX c] at m;exact .inl ⟨j,m⟩
end
def PP (i j:Nat) (os:List Opd):cP:=fun ρ E=>dq os ρ fun as ρ'=>∃ d e,bc ρ' as=some [d,e]∧namsSh ρ' as=true∧E.nx ((ρ'.set i (some d)).set j (some e))
def PJ (f:Int->Int->Int) (i:Nat) (se:bA):cP:=fun ρ E=>∃ n,ρ[i]? = some (some (.int n))∧se ρ fun d ρ'=>∃ m,d = .int m∧E.nx (ρ'.set i (some (.int (f n m))))
def ixF (c:D) (k:Int):Option (D×Option D):=match dIx [c,.int k] with
 | some f=>some (f,none)
 | none=>match c with
  | .lst o ds=>(ixN ds.length k).bind fun j=>(ds[j]?).map fun d=>(d.fz,some (.lst o (ds.set j d.fz)))
  | .tup ds=>(ixN ds.length k).bind fun j=>(ds[j]?).map fun d=>(d.fz,some (.tup (ds.set j d.fz)))
  | _=>none
def putO (ρ : En) (i:Nat):Option D->En
 | none=>ρ
 | some c=>ρ.set i (some c)
def bH (i:Nat) (oi:Opd):bA:=fun ρ Q=>dq [.nam i,oi] ρ fun as ρ'=>∃ a c k f t,as=[.nam i,a] ∧ ρ'[i]? = some (some c)∧a.get ρ'=some (.int k)∧ixF c k=some (f,t)∧Q f (putO ρ' i t)
section
variable {K:PySem.W.Frag} {F:Addr->Prop} {H:Hp} {σ : St} {ρ : En} {Ls:Nat->List Addr} {R:List Addr}
theorem Rps.splitF:∀ {vs:List V} {ds:List D} {L:List Addr} {k:Nat} {d:D},Rps K F H vs ds L->ds[k]? = some d -> ∃ v L1 Lk L2,L=L1++(Lk++L2)∧vs[k]? = some v∧Rp K F H v d Lk ∧
  ∀ F':Addr->Prop,(∀ a,F a->F' a)->(∀ a∈Lk,F' a)->Rps K F' H vs (ds.set k d.fz) (L1++L2)
 | _,_,_,k,d,.nil,e=>by simp at e
 | _,_,_,0,d,.cons (L:=L) (M:=M) r rs,e=>by
  simp at e
  subst e
  exact ⟨_,[],L,M,rfl,rfl,r,fun F' h1 h2=>.cons (L:=[]) (r.freeze h1 h2) (rs.mono h1 (fun _ _ e _=>e) (fun _ _ _ e=>e) fun _ _ _ e=>e)⟩
 | _,_,_,k+1,d,.cons (L:=L) (M:=M) r rs,e=>by
  obtain ⟨v,L1,Lk,L2,rfl,h1,h2,h3⟩:=Rps.splitF (k:=k) rs (by simpa using e)
  refine ⟨v,L++L1,Lk,L2,by rw [List.append_assoc],by simpa using h1,h2,fun F' g1 g2=>?_⟩
  rw [List.append_assoc]
  exact .cons (r.mono g1 (fun _ _ e _=>e) (fun _ _ _ e=>e) fun _ _ _ e=>e) (h3 F' g1 g2)
theorem WS.part {i:Nat} {c c':D} {v:V} {L' M:List Addr} (w:WS K F H σ ρ Ls R) (e : ρ[i]? = some (some c)) (hv : σ[i]? = some (some v)) (hp:(L'++M).Perm (Ls i)) (r':Rp K (fun a=>F a∨a∈M) H v c' L') :
  WS K (fun a=>F a∨a∈M) H σ (ρ.set i (some c')) (jo Ls i L') R:=by
 have hi:i < ρ.length:=(List.getElem?_eq_some_iff.mp e).1
 have ndI:(L'++M).Nodup:=hp.nodup_iff.mpr (w.nd i)
 have nd:=List.nodup_append.mp ndI
 have src:∀ {j:Nat} {b:Addr},b∈jo Ls i L' j->b∈Ls j∧(j=i->b∈L'):=fun {j b} m=>by
  by_cases q:j=i
  ·subst q;rw [aM] at m;exact ⟨hp.mem_iff.mp (List.mem_append_left _ m),fun _=>m⟩
  ·rw [aX q] at m;exact ⟨m,fun z=>absurd z q⟩
 have mM:∀ b∈M,b∈Ls i:=fun b m=>hp.mem_iff.mp (List.mem_append_right _ m)
 exact {
  len:=by rw [List.length_set];exact w.len
  sl:=fun j d2 e2=>by
   by_cases q:j=i
   ·subst q
    rw [List.getElem?_set_self hi] at e2
    cases e2
    exact ⟨v,hv,by rw [aM];exact r'⟩
   ·rw [List.getElem?_set_ne (Ne.symm q)] at e2
    obtain ⟨u,h1,h2⟩:=w.sl j d2 e2
    exact ⟨u,h1,by rw [aX q];exact h2.mono (fun _ h=>.inl h) (fun _ _ e _=>e) (fun _ _ _ e=>e) fun _ _ _ e=>e⟩
  em:=fun j h=>by
   by_cases q:j=i
   ·subst q;exact absurd (List.getElem?_set_self hi) (h c')
   ·rw [aX q];exact w.em j fun d2 z=>h d2 (by rw [List.getElem?_set_ne (Ne.symm q)];exact z)
  nd:=fun j=>by
   by_cases q:j=i
   ·rw [q,aM];exact nd.1
   ·rw [aX q];exact w.nd j
  dj:=fun j j' b h h'=>w.dj j j' b (src h).1 (src h').1
  rd:=w.rd
  rj:=fun j b m=>w.rj j b (src m).1
  nf:=fun j b m z=>by
   rcases z with z | z
   ·exact w.nf j b (src m).1 z
   ·have e1:=w.dj j i b (src m).1 (mM b z)
    exact nd.2.2 b ((src m).2 e1) b z rfl
  nr:=fun b m z=>by
   rcases z with z | z
   ·exact w.nr b m z
   ·exact w.rj i b (mM b z) m
  tr:=w.tr
  ft:=fun b z=>by
   rcases z with z | z
   ·exact w.ft b z
   ·obtain ⟨xs,q⟩:=w.own (mM b z);rw [q];simp }
theorem Step.part {i:Nat} {L' M:List Addr} (hp:(L'++M).Perm (Ls i)):Step F H Ls (fun a=>F a∨a∈M) H (jo Ls i L') []:=
 ⟨fun _ _ e _=>e,fun _ h=>.inl h,fun j a m=>by
  by_cases q:j=i
  ·subst q;rw [aM] at m;exact .inl ⟨j,hp.mem_iff.mp (List.mem_append_left _ m)⟩
  ·rw [aX q] at m;exact .inl ⟨j,m⟩,fun a h=>absurd h (by simp)⟩
end
section
variable {X:Cx} {K:PySem.W.Frag} {σ : St} {H:Hp} {oi:Opd} {i:Nat}
theorem Nq {Q:VK} (h:iI K (bH i oi) σ H Q):pQ K [.nam i,oi] σ H fun vs H1=>∃ x y,vs=[x,y]∧rIx K x y H1 Q:=by
 obtain ⟨F,ρ,Ls,R,Qd,w,q,kk⟩:=h
 refine ⟨F,ρ,Ls,R,_,w,q,fun vs H1 as ρ1 F1 Ls1 La r1 w1 s1 ⟨a,c,k,f,t,ea,ec,ek,e,q1⟩=>?_⟩
 subst ea
 cases r1 with
 | @nam v vs _ _ _ hv rk=>
  obtain ⟨kv,rfl⟩:∃ kv,vs=[kv]:=by
   cases rk with
   | val _ z=>cases z;exact ⟨_,rfl⟩
   | nam _ z=>cases z;exact ⟨_,rfl⟩
  have hk:=Ae w1 rk ek
  subst hk
  obtain ⟨v',hv',rc⟩:=w1.sl i c ec
  rw [hv] at hv'
  cases hv'
  have w2:=w1.less (List.sublist_append_right La R)
  have s2:=s1.more (Ld2:=[]) fun a h=>absurd h (by simp)
  refine ⟨v,.int k,rfl,?_⟩
  unfold ixF at e
  split at e
  ·rename_i f' ef
   cases e
   obtain ⟨x',y',e',rr⟩:=dU F1 H1 [v,.int k] [c,.int k] f Q (.cons rc (.cons (.int k) .nil)) ef fun u H' Lf o=>by
    obtain ⟨rf,o⟩:=o
    rcases o with ⟨rfl,rfl⟩ | ⟨p,hn,⟨xs,rfl,rfl⟩ | ⟨xs,rfl,rfl⟩⟩
    ·exact kk u _ f ρ1 F1 Ls1 [] rf w2 s2 q1
    ·exact kk u _ f ρ1 F1 Ls1 [p] rf (w2.put hn) ((s2.trans (Step.laid hn)).more fun a ha=>by
      cases List.mem_singleton.mp ha
      by_cases z:∃ j,p∈Ls j
      ·exact .inl z
      ·cases q:H p with
       | none=>exact .inr rfl
       | some o=>rw [s1.keep p o q fun i z'=>z ⟨i,z'⟩] at hn;cases hn) q1
    ·exact kk u _ f ρ1 F1 Ls1 [] rf (w2.laid hn) (s2.trans (Step.laid hn)) q1
   cases e'
   exact rr
  ·split at e
   ·rename_i o ds _
    obtain ⟨j,ej,e1⟩:=Option.bind_eq_some_iff.mp e
    obtain ⟨d,e2,e3⟩:=Option.map_eq_some_iff.mp e1
    cases e3
    generalize hLi:Ls1 i=Li at rc
    cases rc with
    | @frz a vs _ ha fa rs=>
     obtain ⟨u,L1,Lk,L2,eL,h1,h2,h3⟩:=rs.splitF e2
     have eL1:=List.append_eq_nil_iff.mp eL.symm
     have eL2:=List.append_eq_nil_iff.mp eL1.2
     cases eL1.1;cases eL2.1;cases eL2.2
     refine .inl ⟨a,vs,k,u,rfl,rfl,.of ha,(by unfold atI;rw [rs.length,ej];exact h1),?_⟩
     refine kk u H1 d.fz _ (fun z=>F1 z∨z∈([]:List Addr)) (jo Ls1 i []) [] (h2.freeze (fun _ h=>.inl h) fun _ h=>absurd h (by simp)) (w2.part ec hv (L':=[]) (M:=[]) (by rw [hLi];exact .refl _) (.frz ha (.inl fa) (h3 _ (fun _ h=>.inl h) fun _ h=>absurd h (by simp)))) (s2.trans (Step.part (by rw [hLi];exact .refl _))) q1
    | @own a vs _ M ha rs=>
     obtain ⟨u,L1,Lk,L2,rfl,h1,h2,h3⟩:=rs.splitF e2
     refine .inl ⟨a,vs,k,u,rfl,rfl,.of ha,(by unfold atI;rw [rs.length,ej];exact h1),?_⟩
     have hp:(a :: (L1++L2)++Lk).Perm (Ls1 i):=by
      rw [hLi]
      refine List.Perm.cons a ?_
      show List.Perm (L1++L2++Lk) _
      rw [List.append_assoc]
      exact (List.Perm.refl L1).append List.perm_append_comm
     exact kk u H1 d.fz _ (fun z=>F1 z∨z∈Lk) (jo Ls1 i (a :: (L1++L2))) [] (h2.freeze (fun _ h=>.inl h) fun _ h=>.inr h) (w2.part ec hv hp (.own ha (h3 _ (fun _ h=>.inl h) fun _ h=>.inr h))) (s2.trans (Step.part hp)) q1
   ·rename_i ds _
    obtain ⟨j,ej,e1⟩:=Option.bind_eq_some_iff.mp e
    obtain ⟨d,e2,e3⟩:=Option.map_eq_some_iff.mp e1
    cases e3
    generalize hLi:Ls1 i=Li at rc
    cases rc with
    | @tup a vs _ _ ha rs=>
     obtain ⟨u,L1,Lk,L2,rfl,h1,h2,h3⟩:=rs.splitF e2
     refine .inr (.inl ⟨a,vs,k,u,rfl,rfl,.of ha,(by unfold atI;rw [rs.length,ej];exact h1),?_⟩)
     have hp:(L1++L2++Lk).Perm (Ls1 i):=by
      rw [hLi,List.append_assoc]
      exact (List.Perm.refl L1).append List.perm_append_comm
     exact kk u H1 d.fz _ (fun z=>F1 z∨z∈Lk) (jo Ls1 i (L1++L2)) [] (h2.freeze (fun _ h=>.inl h) fun _ h=>.inr h) (w2.part ec hv hp (.tup ha (h3 _ (fun _ h=>.inl h) fun _ h=>.inr h))) (s2.trans (Step.part hp)) q1
   ·cases e
theorem aO {x:Str} {b:Expr} {p pos:Pos} (ha:SO X (.Name x p) (.nam i)) (hb:SO X b oi) (hs:uR b):SE X (.Subscript (.Name x p) b pos) (bH i oi):=
 (JZ gj ha hb hs).wk fun σ H Q h=>tH (Nq h)
end
end L2
namespace L2
open PySem PySem.Spec PyProof.Rows
def DW:List D->Option D
 | [.int i]=>some (.int (if i<0 then -i else i))
 | _=>none
theorem Ei {K:PySem.W.Frag}:cz K (fun xs H Q=>∃ i,xs=[.int i]∧Q (.int (if i<0 then -i else i)) H) DW:=by
 intro F H vs ds f Q r e q
 unfold DW at e
 split at e
 ·cases e
  obtain ⟨x,L,rfl,r1⟩:=r.one
  cases r1.isInt
  exact ⟨_,rfl,q _ _ _ (.ofFlat rfl)⟩
 ·cases e
def Ce:List D->Option D
 | [.int i,.int j]=>some (.int (if j>i then j else i))
 | _=>none
def wJ:List D->Option D
 | [.int i,.int j]=>some (.int (if j<i then j else i))
 | _=>none
theorem Ek {K:PySem.W.Frag}:cz K (fun xs H Q=>∃ i j,xs=[.int i,.int j]∧Q (.int (if j>i then j else i)) H) Ce:=by
 intro F H vs ds f Q r e q
 unfold Ce at e
 split at e
 ·cases e
  obtain ⟨x,y,L,M,rfl,r1,r2⟩:=r.two
  cases r1.isInt;cases r2.isInt
  exact ⟨_,_,rfl,q _ _ _ (.ofFlat rfl)⟩
 ·cases e
theorem wU {K:PySem.W.Frag}:cz K (fun xs H Q=>∃ i j,xs=[.int i,.int j]∧Q (.int (if j<i then j else i)) H) wJ:=by
 intro F H vs ds f Q r e q
 unfold wJ at e
 split at e
 ·cases e
  obtain ⟨x,y,L,M,rfl,r1,r2⟩:=r.two
  cases r1.isInt;cases r2.isInt
  exact ⟨_,_,rfl,q _ _ _ (.ofFlat rfl)⟩
 ·cases e
def DX:List D->Option D
 | [.int i]=>some (.int i)
 | [.bl k]=>some (.int (if k then 1 else 0))
 | _=>none
theorem Ej {K:PySem.W.Frag}:cz K (fun xs H Q=>(∃ i,xs=[.int i]∧Q (.int i) H) ∨ ∃ k,xs=[.bl k]∧Q (.int (if k then 1 else 0)) H) DX:=by
 intro F H vs ds f Q r e q
 unfold DX at e
 split at e
 ·cases e
  obtain ⟨x,L,rfl,r1⟩:=r.one
  cases r1.isInt
  exact .inl ⟨_,rfl,q _ _ _ (.ofFlat rfl)⟩
 ·cases e
  obtain ⟨x,L,rfl,r1⟩:=r.one
  cases r1.isBl
  exact .inr ⟨_,rfl,q _ _ _ (.ofFlat rfl)⟩
 ·cases e
def D.tyName:D->Option String
 | .non=>some "NoneType"
 | .bl _=>some "bool"
 | .int _=>some "int"
 | .str _=>some "str"
 | .tup _=>some "tuple"
 | .lst _ _=>some "list"
 | _=>none
def Nz (t T:String):Option Bool:=
 if T = "int" then (if t = "int" then some true else if t = "bool" then some true else if t = "NoneType" ∨ t = "str" ∨ t = "tuple" ∨ t = "list" then some false else none)
 else if T = "bool" then (if t = "bool" then some true else if t = "int" ∨ t = "NoneType" ∨ t = "str" ∨ t = "tuple" ∨ t = "list" then some false else none)
 else if T = "tuple" then (if t = "tuple" then some true else if t = "int" ∨ t = "bool" ∨ t = "NoneType" ∨ t = "str" ∨ t = "list" then some false else none)
 else if T = "list" then (if t = "list" then some true else if t = "int" ∨ t = "bool" ∨ t = "NoneType" ∨ t = "str" ∨ t = "tuple" then some false else none)
 else if T = "str" then (if t = "str" then some true else if t = "int" ∨ t = "bool" ∨ t = "NoneType" ∨ t = "tuple" ∨ t = "list" then some false else none)
 else none
theorem Lh {K:PySem.W.Frag} {t T:String} {b:Bool} (h:Nz t T=some b):PySem.W.kitOne K (.type t) (.type T)=some b:=by
 unfold Nz at h
 repeat' split at h
 all_goals (first | (cases h;done) | (cases h;subst_vars;rfl) | (cases h;rename_i z;rcases z with z | z | z | z | z <;> subst z <;> subst_vars <;> kernel_rfl) | (cases h;rename_i z;rcases z with z | z | z | z <;> subst z <;> subst_vars <;> kernel_rfl) | (cases h;subst_vars;kernel_rfl))
def gC:List D->Option D
 | [d,.ty T]=>(d.tyName.bind fun t=>Nz t T).map D.bl
 | _=>none
theorem Rp.tyOf {K:PySem.W.Frag} {F:Addr->Prop} {H:Hp} {v:V} {d:D} {L:List Addr} {t:String} (r:Rp K F H v d L) (e:d.tyName=some t):TyOf K H v (.type t):=by
 cases r with
 | non=>cases e;exact .non
 | bl b=>cases e;exact .bl b
 | int i=>cases e;exact .int i
 | str x=>cases e;exact .str x
 | ty n=>cases e
 | xc _ _ _=>cases e
 | fn _=>cases e
 | dfz _ _ _=>cases e
 | down _ _=>cases e
 | scr h=>cases e
 | tup h r=>cases e;exact .tup h
 | frz h f r=>cases e;exact .lst h
 | own h r=>cases e;exact .lst h
theorem eF {K:PySem.W.Frag}:cz K (fun xs H Q=>∃ (x:V) (T:String) (t:Value) (b:Bool),xs=[x,.ty T]∧TyOf K H x t∧PySem.W.kitOne K t (.type T)=some b∧Q (.bl b) H) gC:=by
 intro F H vs ds f Q r e q
 unfold gC at e
 split at e
 ·obtain ⟨b,e1,rfl⟩:=Option.map_eq_some_iff.mp e
  obtain ⟨t,e2,e3⟩:=Option.bind_eq_some_iff.mp e1
  obtain ⟨x,y,L,M,rfl,r1,r2⟩:=r.two
  cases r2
  exact ⟨_,_,_,b,rfl,r1.tyOf e2,Lh e3,q _ _ _ (.ofFlat rfl)⟩
 ·cases e
theorem lA {X:Cx} {x:Str} {n:String} {pos:Pos} (hg:Gl X x) (hm:X.mg x=none) (hv:bootBuiltins x=some (.type n)) (hn:x ≠ "__name__":=by decide) (hd:(x==("__debug__" : Str))=false:=by decide):SE X (.Name x pos) (sC (.ty n)):=
 (Ip (v:=.ty n) hg hm hv rfl hn hd).wk fun _ _ _ h=>jm rfl h
def D.bools:List D->Option (List Bool)
 | []=>some []
 | .bl b :: ds=>(D.bools ds).map (b :: ·)
 | _=>none
theorem Rps.bools {K:PySem.W.Frag} {F:Addr->Prop} {H:Hp}:∀ {vs:List V} {ds:List D} {L:List Addr} {bs:List Bool},Rps K F H vs ds L->D.bools ds=some bs->vs=bs.map V.bl
 | _,_,_,_,.nil,e=>by cases e;rfl
 | _,_,_,_,.cons (d:=d) (ds:=ds) r rs,e=>by
  cases d with
  | bl b=>
   rw [D.bools] at e
   obtain ⟨cs,e1,rfl⟩:=Option.map_eq_some_iff.mp e
   rw [r.isBl,Rps.bools rs e1];rfl
  | _=>simp [D.bools] at e
def mD:List D->Option D
 | [.lst _ ds]=>(D.bools ds).map fun bs=>.bl (bs.all id)
 | _=>none
theorem fX {K:PySem.W.Frag}:cz K (fun xs H Q=>∃ (p:Addr) (bs:List Bool),xs=[.ref p]∧SqL K H p (bs.map V.bl)∧Q (.bl (bs.all id)) H) mD:=by
 intro F H vs ds f Q r e q
 unfold mD at e
 split at e
 ·obtain ⟨bs,e1,rfl⟩:=Option.map_eq_some_iff.mp e
  obtain ⟨x,L,rfl,r1⟩:=r.one
  obtain ⟨a,vs,L1,rfl,ha,ra,_⟩:=r1.lst_at
  rw [ra.bools e1] at ha
  exact ⟨_,_,rfl,.of ha,q _ _ _ (.ofFlat rfl)⟩
 ·cases e
def jq:List D->Option D
 | [.lst _ ds]=>if D.shs ds=true then some (.lst true ds) else none
 | [.tup ds]=>if D.shs ds=true then some (.lst true ds) else none
 | _=>none
theorem qb {K:PySem.W.Frag}:cz K (fun xs H Q=>∃ p ys,xs=[.ref p]∧(SqL K H p ys∨SqT K H p ys) ∧ ∀ l,H l=none->Q (.ref l) (upd H l (.lst ys))) jq:=by
 intro F H vs ds f Q r e q
 unfold jq at e
 split at e
 ·split at e
  ·rename_i hs
   cases e
   obtain ⟨x,L,rfl,r1⟩:=r.one
   obtain ⟨a,vs,L1,rfl,ha,ra,_⟩:=r1.lst_at
   cases ra.sh_nil hs
   exact ⟨_,_,rfl,.inl (.of ha),fun l hl=>q _ _ _ (.list hl ra)⟩
  ·cases e
 ·split at e
  ·rename_i hs
   cases e
   obtain ⟨x,L,rfl,r1⟩:=r.one
   obtain ⟨a,vs,rfl,ha,ra⟩:=r1.tup_at
   cases ra.sh_nil hs
   exact ⟨_,_,rfl,.inr ha,fun l hl=>q _ _ _ (.list hl ra)⟩
  ·cases e
 ·cases e
def iZ:List D->Option D
 | [.lst _ ds]=>if D.shs ds=true then some (.tup ds) else none
 | [.tup ds]=>if D.shs ds=true then some (.tup ds) else none
 | _=>none
theorem jc {K:PySem.W.Frag}:cz K (fun xs H Q=>∃ p ys,xs=[.ref p]∧((SqL K H p ys ∧ ∀ l,H l=none->Q (.ref l) (upd H l (.tup ys)))∨(SqT K H p ys∧Q (.ref p) H))) iZ:=by
 intro F H vs ds f Q r e q
 unfold iZ at e
 split at e
 ·split at e
  ·rename_i hs
   cases e
   obtain ⟨x,L,rfl,r1⟩:=r.one
   obtain ⟨a,vs,L1,rfl,ha,ra,_⟩:=r1.lst_at
   cases ra.sh_nil hs
   exact ⟨_,_,rfl,.inl ⟨.of ha,fun l hl=>q _ _ _ (.tuple hl ra)⟩⟩
  ·cases e
 ·split at e
  ·rename_i hs
   cases e
   obtain ⟨x,L,rfl,r1⟩:=r.one
   obtain ⟨a,vs,rfl,ha,ra⟩:=r1.tup_in
   cases ra.sh_nil hs
   exact ⟨_,_,rfl,.inr ⟨.of ha,q _ _ _ (.same (.tup ha ra))⟩⟩
  ·cases e
 ·cases e
def cutD (xs:List D) (lo hi:Option Int):List D:=(xs.drop (HT.sIx xs.length 0 lo)).take (HT.sIx xs.length xs.length hi - HT.sIx xs.length 0 lo)
def dSl:D->Option Int->Option Int->Option D
 | .lst _ ds,lo,hi=>if D.shs ds=true then some (.lst true (cutD ds lo hi)) else none
 | .tup ds,lo,hi=>if (D.shs ds && !decide (HT.sIx ds.length 0 lo=0∧HT.sIx ds.length ds.length hi=ds.length))=true then some (.tup (cutD ds lo hi)) else none
 | _,_,_=>none
def sSlFrom (o lo:Opd):bA:=sDo (fun ds=>match ds with | [d,.int l]=>dSl d (some l) none | _=>none) [o,lo]
def sSlTo (o hi:Opd):bA:=sDo (fun ds=>match ds with | [d,.int h]=>dSl d none (some h) | _=>none) [o,hi]
def zA (K:PySem.W.Frag):V->Option Int->Option Int->Hp->VK->Prop:=fun x lo hi H Q=>Pu K x lo hi H Q∨Px K x lo hi H Q
theorem Rps.cutR {K:PySem.W.Frag} {F:Addr->Prop} {H:Hp} {vs:List V} {ds:List D} (r:Rps K F H vs ds []) (lo hi:Option Int):Rps K F H (wH vs lo hi) (cutD ds lo hi) []:=by
 unfold wH cutD
 rw [r.length]
 obtain ⟨L1,L2,e,_,h2⟩:=r.cut (HT.sIx ds.length 0 lo)
 have e2:=(List.append_eq_nil_iff.mp e.symm).2
 subst e2
 obtain ⟨L1,L2,e,h1,_⟩:=h2.cut (HT.sIx ds.length ds.length hi - HT.sIx ds.length 0 lo)
 have e1:=(List.append_eq_nil_iff.mp e.symm).1
 subst e1
 exact h1
theorem zX {K:PySem.W.Frag} {F:Addr->Prop} {H:Hp} {x:V} {d f:D} {L:List Addr} {lo hi:Option Int} {Q:VK} (r:Rp K F H x d L) (e:dSl d lo hi=some f) (q:∀ v H' Lf,Out K F H f v H' Lf->Q v H'):zA K x lo hi H Q:=by
 unfold dSl at e
 split at e
 ·split at e
  ·rename_i hs
   cases e
   obtain ⟨a,vs,L1,rfl,ha,ra,_⟩:=r.lst_at
   cases ra.sh_nil hs
   exact .inl ⟨_,_,rfl,.of ha,fun p hp=>q _ _ _ (.list hp (ra.cutR lo hi))⟩
  ·cases e
 ·split at e
  ·rename_i hs
   cases e
   rw [Bool.and_eq_true] at hs
   obtain ⟨a,vs,rfl,ha,ra⟩:=r.tup_at
   cases ra.sh_nil hs.1
   refine .inr ⟨_,_,rfl,ha,?_,fun p hp=>q _ _ _ (.tuple hp (ra.cutR lo hi))⟩
   rw [ra.length]
   intro hc
   have:=hs.2
   rw [decide_eq_true hc] at this
   cases this
  ·cases e
 ·cases e
section
variable {X:Cx} {e idx:Expr} {o oi:Opd} {pos p2:Pos}
theorem Ni:SlR X (zA X.K):=Jr.or Nj
end
theorem Known.sem {P:Program} {w:World} {K:PySem.W.Frag} {mg:Str->Option Value} {base:Heap} {x:Str} {st:Stmt} {ps N:List Str} {k:Nat} {io:Bool} {b:cP} (h:Known K mg x st ps) (S:FnScope N ps (aC st)) (ht:P.given.tree=none)
  (hb:∀ (X:Cx) (cdv:Value) (f:Addr) (A:Around) (outer:List Env) (s:Shared) (H:Hp) (E:XK),X=(qp CX0 P w K mg base N x (aC st) f cdv A outer s H E).nox->Cc X k->SL X (kpF io) (fL st) b) :
  Prm P w K mg base x (k+1) ps (aZ K ps.length io (fnS ps.length (N.length - ps.length) io b)):=by
 obtain ⟨f,fd,F,bd,g⟩:=h
 obtain ⟨oc,od,kV,doc,pm,an,cdv,ct,osl,rfl,lk,hcd⟩:=F.ex
 refine ⟨f,_,Es lk hcd S fun A outer s H E hr=>?_,bd,g,F.kp⟩
 have hc:Cc (qp CX0 P w K mg base N x (aC st) f cdv A outer s H E).nox k:=⟨rfl,hr,ht,⟨_,_,rfl,S.gen,S.co,rfl,rfl⟩⟩
 exact PSs.nox (hb _ cdv f A outer s H E rfl hc)
theorem Cc.comp {X:Cx} {k:Nat} {scope:Scope} {N:List Str} {cl:List (Str×Addr)} {C:Addr} {fp:List Addr} {s₂ : Shared} {H₂ : Hp} (c:Cc X k):Cc (X.comp scope N cl C fp s₂ H₂) k:=⟨c.calm,c.room,c.tree,c.seer⟩
section
variable {X:Cx} {x:Str} {k n:Nat} {ps:List Str} {sf:cW} {e:Expr} {es:List Expr} {os:List Opd} {p pos:Pos}
theorem aQ (h:Prm X.prog X.w X.K X.mg X.base x k ps (aZ X.K n false sf)) (hr:Room k X.A) (hg:Gl X x) (ha:SA X (e :: es) os)
  (hdb:(x==("__debug__" : Str))=false:=by decide) (he:starEach (e :: es) X.env=(false,eval e X.env) :: starEach es X.env:=by rfl) (hpl:(backTo pos (starEach es X.env)).any (·.1)=false:=by rfl) :
  SE X (.Call (.Name x p) (e :: es) [] pos) (aF n sf os):=by
 obtain ⟨f,fd,F,b,g,kp⟩:=h
 exact Jl F hr hg g kp b JW ha hdb he hpl
theorem bh {i:Nat} (h:Prm X.prog X.w X.K X.mg X.base x k ps (aZ X.K n true sf)) (hr:Room k X.A) (hg:Gl X x) (ha:SA X (e :: es) (.nam i :: os))
  (hdb:(x==("__debug__" : Str))=false:=by decide) (he:starEach (e :: es) X.env=(false,eval e X.env) :: starEach es X.env:=by rfl) (hpl:(backTo pos (starEach es X.env)).any (·.1)=false:=by rfl) :
  SE X (.Call (.Name x p) (e :: es) [] pos) (aA n sf i os):=by
 obtain ⟨f,fd,F,b,g,kp⟩:=h
 exact GF F hr hg g kp b JW ha hdb he hpl
theorem sv (i:Nat) {pos:Pos} (hN:X.N[i]? = some x:=by rfl) (hv:Vis X.env.scope x:=by first | exact Or.inl rfl | exact Or.inr (Or.inl rfl) | exact Or.inr (Or.inr rfl)) (hd:(x==("__debug__" : Str))=false:=by decide)
  (hcd:(x==("__classdict__" : Str))=false:=by decide):SE X (.Name x pos) (cu i):=Nf hN hv hd hcd
theorem sn (i:Nat) {pos:Pos} (hN:X.N[i]? = some x:=by rfl) (hv:Vis X.env.scope x:=by first | exact Or.inl rfl | exact Or.inr (Or.inl rfl) | exact Or.inr (Or.inr rfl)) (hd:(x==("__debug__" : Str))=false:=by decide)
  (hcd:(x==("__classdict__" : Str))=false:=by decide):SO X (.Name x pos) (.nam i):=Nm hN hv hd hcd
end
end L2
namespace L2
open PySem PySem.Spec PyProof.Rows
def lH (g g':List D->Option D) (o1 o2 o3:Opd):bA:=fun ρ Q=>dq [o1,o2] ρ fun as ρ1=>∃ d j b,bc ρ1 as=some [d,.int j]∧g [d,.int j]=some (.bl b) ∧
 if b=true then dq [o3] ρ1 fun as2 ρ2=>∃ f c,bc ρ2 as2=some [f]∧g' [.int j,f]=some (.bl c)∧Q (.bl c) ρ2 else Q (.bl false) ρ1
section
variable {X:Cx} {a b c:Expr} {o1 o2 o3:Opd} {pos:Pos} {r r':R2} {g g':List D->Option D} {K:PySem.W.Frag} {σ : St} {H:Hp}
theorem Hc (hg:cz K (r2 r) g) (hg':cz K (r2 r') g') {Q:VK} (h:iI K (lH g g' o1 o2 o3) σ H Q):GR r r' (oJ K o1) (oJ K o2) (oJ K o3) σ H Q:=by
 obtain ⟨F,ρ,Ls,R,Qd,w,q,k⟩:=h
 have t:pQ K [o1,o2] σ H fun vs H1=>∃ x y,vs=[x,y]∧r x y H1 fun z H3=>∃ b,z = .bl b∧(if b=true then oJ K o3 σ H3 fun w' H4=>r' y w' H4 Q else Q (.bl false) H3):=by
  refine ⟨F,ρ,Ls,R,_,w,q,fun vs H1 as ρ1 F1 Ls1 La r1 w1 s1 ⟨d,j,b,e1,e2,q1⟩=>?_⟩
  obtain ⟨x,y,L,M,rfl,rx,ry⟩:=(r1.at w1 e1).two
  cases ry.isInt
  obtain ⟨x',y',e',rr⟩:=hg F1 H1 [x,.int j] [d,.int j] (.bl b) (fun z H3=>∃ b,z = .bl b∧(if b=true then oJ K o3 σ H3 fun w' H4=>r' (.int j) w' H4 Q else Q (.bl false) H3)) (.cons rx (.cons (.int j) .nil)) e2 fun v H' Lf o=>by
   obtain ⟨rf,o⟩:=o
   cases rf.isBl
   refine ⟨b,rfl,?_⟩
   have hH:H'=H1 ∨ ∃ p u,H1 p=none∧H'=upd H1 p u:=by
    rcases o with ⟨z,_⟩ | ⟨p,hn,⟨xs,z,_⟩ | ⟨xs,z,_⟩⟩
    ·exact .inl z
    ·exact .inr ⟨p,_,hn,z⟩
    ·exact .inr ⟨p,_,hn,z⟩
   have w2:WS K F1 H' σ ρ1 Ls1 R∧Step F H Ls F1 H' Ls1 []:=by
    have w1':=w1.less (List.sublist_append_right La R)
    have s1':=s1.more (Ld2:=[]) fun a h=>absurd h (by simp)
    rcases hH with rfl | ⟨p,u,hn,rfl⟩
    ·exact ⟨w1',s1'⟩
    ·exact ⟨w1'.laid hn,s1'.trans (Step.laid hn)⟩
   obtain ⟨w2,s2⟩:=w2
   cases b with
   | false=>
    rw [if_neg Bool.false_ne_true] at q1 ⊢
    exact k _ H' _ ρ1 F1 Ls1 [] (.bl false) w2 s2 q1
   | true=>
    rw [if_pos rfl] at q1 ⊢
    have t3:pQ K [o3] σ H' fun vs H4=>∃ w',vs=[w']∧r' (.int j) w' H4 Q:=by
     refine ⟨F1,ρ1,Ls1,R,_,w2,q1,fun vs H4 as2 ρ2 F2 Ls2 La2 r3 w3 s3 ⟨f,c,e3,e4,q3⟩=>?_⟩
     obtain ⟨w',L',rfl,rw'⟩:=(r3.at w3 e3).one
     obtain ⟨x',y',e',rr⟩:=hg' F2 H4 [.int j,w'] [.int j,f] (.bl c) Q (.cons (.int j) (.cons rw' .nil)) e4 fun v H5 Lf o=>by
      obtain ⟨rf,o⟩:=o
      cases rf.isBl
      have w3':=w3.less (List.sublist_append_right La2 R)
      have s3':=(s2.trans s3).more (Ld2:=[]) fun a h=>absurd h (by simp)
      rcases o with ⟨z,_⟩ | ⟨p,hn,⟨xs,z,_⟩ | ⟨xs,z,_⟩⟩
      ·subst z;exact k _ _ _ ρ2 F2 Ls2 [] (.bl c) w3' s3' q3
      ·subst z;exact k _ _ _ ρ2 F2 Ls2 [] (.bl c) (w3'.laid hn) (s3'.trans (Step.laid hn)) q3
      ·subst z;exact k _ _ _ ρ2 F2 Ls2 [] (.bl c) (w3'.laid hn) (s3'.trans (Step.laid hn)) q3
     cases e'
     exact ⟨w',rfl,rr⟩
    exact zJ t3
  cases e'
  exact ⟨x,.int j,rfl,rr⟩
 refine iC (fun x H1 t1=>?_) (dm t)
 refine iC (fun y H2 t2=>?_) (dm t1)
 obtain ⟨F,ρ,Ls,R,Qd,w,q,k⟩:=t2
 obtain ⟨x',y',e',rr⟩:=k [] H2 [] ρ F Ls [] .nil w Step.refl q
 cases e'
 exact rr
theorem oA {op op':CmpOp} (ho:OpR X (compareOp op) r) (ho':OpR X (compareOp op') r') (hg:cz X.K (r2 r) g) (hg':cz X.K (r2 r') g') (ha:SO X a o1) (hb:SO X b o2) (hc:SO X c o3)
  (hm:lastMarks [op,op'] [b,c]=false:=by with_unfolding_all rfl):SE X (.Compare a [op,op'] [b,c] pos) (lH g g' o1 o2 o3):=
 (Gk ho ho' ha hb hc hm).wk fun σ H Q h=>Hc hg hg' h
end
theorem Lp {K:PySem.W.Frag} {sf:cW} {H:Hp} {a:Addr} {ns:List Int} (hO:Only H) (hS:SqL K H a (ns.map V.int)) (h:sf [.scr ns] fun r _=>r = .bl true) {E:XK}:aZ K 1 false sf [.ref a] H (fun v _=>v = .bl true) E:=by
 have sc:qZ K H a ns:=by
  rcases hS with h | h
  ·rcases h with h | ⟨o,h⟩
   ·rcases hO a with z | ⟨o,xs,z⟩
    ·rw [h] at z;cases z
    ·rw [h] at z;cases z
   ·exact .inl ⟨o,h⟩
  ·exact .inr h
 refine ⟨rfl,fun _=>False,[.scr ns],fun _=>[],[],_,?_,fun _ _=>rfl,h,fun v H' r x F' Ls' Lr rr _ _ e=>?_⟩
 ·exact {
   len:=rfl
   sl:=fun i d e=>by
    cases i with
    | zero=>simp at e;subst e;exact ⟨_,rfl,.scr sc⟩
    | succ i=>simp at e
   em:=fun _ _=>rfl
   nd:=fun _=>List.nodup_nil
   dj:=fun _ _ _ h _=>absurd h (by simp)
   rd:=List.nodup_nil
   rj:=fun _ _ h=>absurd h (by simp)
   nf:=fun _ _ h=>absurd h (by simp)
   nr:=fun _ h=>absurd h (by simp)
   tr:=fun _ h=>absurd h (by simp)
   ft:=fun _ h=>h.elim }
 ·subst e
  exact rr.isBl
theorem Hg {l:PySem.W.OpenLaw} {q:Program} {loose:List Str} {XP:(Str->Option Value)->Heap->Prop} {YP:World->Heap->Prop} {d:DefRec} {K:Params->PySem.W.Frag} {k:Nat} {x:Str} {sf:cW} (hn:l.most=some 63) (hdf:d.params.defaults=[]) (himp:importsNone q=true)
  (hr:Room k callerA) (hY:∀ (w:World) (h:Heap),YP w h->(K w.params).In h) (hs:∀ ns:List Int,ns.length<=63->sf [.scr ns] fun r _=>r = .bl true)
  (F:∀ (w:World) (mg:Str->Option Value) (fa:Addr) (h:Heap),(K w.params).In h->h.Ns mainGlobals mg->mg d.name=some (.ref fa) ->
   ∃ fd:FuncData,(∀ (s:Shared) (u:Value),PySem.BindsTo s fd ⟨[u],[]⟩ [(x,u)]) ∧ ∀ base:Heap,(K w.params).In base->base.Ns mainGlobals mg->FnOk l.prog w (K w.params) mg base CX0 k fa fd [x] (aZ (K w.params) 1 false sf)) :
  PySem.W.WalkO q loose XP YP l.row.toRowW d [] (fun f vs=>PySem.call f vs):=
 L2.JF (n:=63) (k:=k) (x:=x) (CX:=fun _=>CX0) (sp:=fun w=>aZ (K w.params) 1 false sf) hn (by decide) hdf himp hr hY F (fun _ _ a ns hl hO hS=>Lp hO hS (hs ns hl)) fun _ _ _ _ _ z=>z
theorem Fun.sem {P:Program} {w:World} {K:PySem.W.Frag} {mg:Str->Option Value} {base:Heap} {x:Str} {st:Stmt} {f:Addr} {fd:FuncData} {ps N:List Str} {k:Nat} {io:Bool} {b:cP} (F:Fun K x x st f fd) (S:FnScope N ps (aC st)) (ht:P.given.tree=none)
  (hb:∀ (X:Cx) (cdv:Value) (f:Addr) (A:Around) (outer:List Env) (s:Shared) (H:Hp) (E:XK),X=(qp CX0 P w K mg base N x (aC st) f cdv A outer s H E).nox->Cc X k->SL X (kpF io) (fL st) b) :
  FnOk P w K mg base CX0 (k+1) f fd ps (aZ K ps.length io (fnS ps.length (N.length - ps.length) io b)):=by
 obtain ⟨oc,od,kV,doc,pm,an,cdv,ct,osl,rfl,lk,hcd⟩:=F.ex
 refine Es lk hcd S fun A outer s H E hr=>?_
 have hc:Cc (qp CX0 P w K mg base N x (aC st) f cdv A outer s H E).nox k:=⟨rfl,hr,ht,⟨_,_,rfl,S.gen,S.co,rfl,rfl⟩⟩
 exact PSs.nox (hb _ cdv f A outer s H E rfl hc)
end L2
namespace L2
open PySem PySem.Spec PyProof.Rows
def jH:List D->Option D
 | [.int i,.int j]=>some (.int (i - j))
 | _=>none
def pZ:List D->Option D
 | [.int i,.int j]=>if j=0 then none else some (.int (i.fdiv j))
 | _=>none
def jG:List D->Option D
 | [.int i,.int j]=>if j=0 then none else some (.int (i.fmod j))
 | _=>none
def oV:List D->Option D
 | [.int i,.int j]=>if (decide (0<=j)&&decide (j<=1000000)&&decide (i.natAbs<2 ^ 64))=true then some (.int (i ^ j.toNat)) else none
 | _=>none
def oU:List D->Option D
 | [.int i]=>some (.int (-i))
 | _=>none
def dLt:List D->Option D
 | [.int i,.int j]=>some (.bl (decide (i<j)))
 | _=>none
def dLe:List D->Option D
 | [.int i,.int j]=>some (.bl (decide (i<=j)))
 | _=>none
def dGt:List D->Option D
 | [.int i,.int j]=>some (.bl (decide (j<i)))
 | _=>none
def dGe:List D->Option D
 | [.int i,.int j]=>some (.bl (decide (j<=i)))
 | _=>none
section
variable {K:PySem.W.Frag}
theorem qI {gv:Int->Int->V} {gd:Int->Int->D} {g:List D->Option D} (hg:∀ ds f,g ds=some f -> ∃ i j,ds=[.int i,.int j]∧f=gd i j) (hf:∀ i j,(gd i j).flat=some (gv i j)):cz K (r2 (rI0 gv)) g:=by
 intro F H vs ds f Q r e q
 obtain ⟨i,j,rfl,rfl⟩:=hg ds f e
 obtain ⟨x,y,L,M,rfl,r1,r2⟩:=r.two
 cases r1.isInt;cases r2.isInt
 exact ⟨_,_,rfl,_,_,rfl,rfl,q _ _ _ (.ofFlat (hf i j))⟩
theorem rC {C:Int->Int->Prop} {gv:Int->Int->V} {gd:Int->Int->D} {g:List D->Option D} (hg:∀ ds f,g ds=some f -> ∃ i j,ds=[.int i,.int j]∧f=gd i j∧C i j) (hf:∀ i j,(gd i j).flat=some (gv i j)):cz K (r2 (rI C gv)) g:=by
 intro F H vs ds f Q r e q
 obtain ⟨i,j,rfl,rfl,c⟩:=hg ds f e
 obtain ⟨x,y,L,M,rfl,r1,r2⟩:=r.two
 cases r1.isInt;cases r2.isInt
 exact ⟨_,_,rfl,_,_,rfl,rfl,c,q _ _ _ (.ofFlat (hf i j))⟩
theorem dM:cz K (r2 (rI0 fun i j=>.int (i - j))) jH:=qI (gd:=fun i j=>.int (i - j)) (fun ds f e=>by unfold jH at e;split at e <;> cases e;exact ⟨_,_,rfl,rfl⟩) fun _ _=>rfl
theorem zV:cz K (r2 (rI0 fun i j=>.bl (decide (i<j)))) dLt:=qI (gd:=fun i j=>.bl (decide (i<j))) (fun ds f e=>by unfold dLt at e;split at e <;> cases e;exact ⟨_,_,rfl,rfl⟩) fun _ _=>rfl
theorem iR:cz K (r2 (rI0 fun i j=>.bl (decide (i<=j)))) dLe:=qI (gd:=fun i j=>.bl (decide (i<=j))) (fun ds f e=>by unfold dLe at e;split at e <;> cases e;exact ⟨_,_,rfl,rfl⟩) fun _ _=>rfl
theorem nC:cz K (r2 (rI0 fun i j=>.bl (decide (j<i)))) dGt:=qI (gd:=fun i j=>.bl (decide (j<i))) (fun ds f e=>by unfold dGt at e;split at e <;> cases e;exact ⟨_,_,rfl,rfl⟩) fun _ _=>rfl
theorem oX:cz K (r2 (rI (fun _ j=>j≠0) fun i j=>.int (i.fdiv j))) pZ:=rC (gd:=fun i j=>.int (i.fdiv j)) (fun ds f e=>by
 unfold pZ at e
 split at e
 ·split at e
  ·cases e
  ·cases e;exact ⟨_,_,rfl,rfl,by assumption⟩
 ·cases e) fun _ _=>rfl
theorem fD:cz K (r2 (rI (fun _ j=>j≠0) fun i j=>.int (i.fmod j))) jG:=rC (gd:=fun i j=>.int (i.fmod j)) (fun ds f e=>by
 unfold jG at e
 split at e
 ·split at e
  ·cases e
  ·cases e;exact ⟨_,_,rfl,rfl,by assumption⟩
 ·cases e) fun _ _=>rfl
theorem nF:cz K (r2 (rI NT fun i j=>.int (i ^ j.toNat))) oV:=rC (gd:=fun i j=>.int (i ^ j.toNat)) (fun ds f e=>by
 unfold oV at e
 split at e
 ·split at e
  ·rename_i h
   cases e
   rw [Bool.and_eq_true,Bool.and_eq_true,decide_eq_true_eq,decide_eq_true_eq,decide_eq_true_eq] at h
   exact ⟨_,_,rfl,rfl,h.1.1,h.1.2,h.2⟩
  ·cases e
 ·cases e) fun _ _=>rfl
theorem jT:cz K (fun vs H Q=>∃ x,vs=[x]∧rU (fun i=>.int (-i)) x H Q) oU:=by
 intro F H vs ds f Q r e q
 unfold oU at e
 split at e
 ·cases e
  obtain ⟨x,L,rfl,r1⟩:=r.one
  cases r1.isInt
  exact ⟨_,rfl,_,rfl,q _ _ _ (.ofFlat rfl)⟩
 ·cases e
end
theorem goN (is:List Nat):∀ g∈is.map gN,∀ d ρ Q,g d ρ Q -> ∃ ρ',Q ρ':=fun g hg d ρ Q h=>by
 obtain ⟨i,_,rfl⟩:=List.mem_map.mp hg
 exact ⟨_,h⟩
def ndB:List Str->Bool
 | []=>true
 | x :: xs=>!(xs.any fun y=>x==y)&&ndB xs
theorem iK:∀ {xs:List Str},ndB xs=true->xs.Nodup
 | [],_=>List.nodup_nil
 | x :: xs,h=>by
  rw [ndB,Bool.and_eq_true] at h
  refine List.nodup_cons.mpr ⟨fun m=>?_,iK h.2⟩
  have:(xs.any fun y=>x==y)=true:=List.any_eq_true.mpr ⟨x,m,by simp⟩
  rw [this] at h
  cases h.1
def wG (osc:List (Str×NameKind)) (N:List Str) (scope:Scope) (own:List Str) (fr:List Nat):Bool:=
 (match scope.kind with | .function=>true | _=>false)&&ndB (scope.names.map (·.1))&&(scope.names.all fun y=>match y.2 with | .free=>(match osc.lookup y.1 with | some .cell=>true | some .free=>true | _=>false) | _=>true) &&
 (fr.all fun j=>decide (j<N.length)&&(match scope.names.lookup (N.getD j "") with | some .free=>true | _=>false))&&ndB (own++fr.map fun j=>N.getD j "")
theorem CScope.of {X:Cx} {scope:Scope} {own:List Str} {fr:List Nat} (h:wG X.env.scope.names X.N scope own fr=true):CScope X scope own fr:=by
 unfold wG at h
 rw [Bool.and_eq_true,Bool.and_eq_true,Bool.and_eq_true,Bool.and_eq_true] at h
 obtain ⟨⟨⟨⟨h1,h2⟩,h3⟩,h4⟩,h5⟩:=h
 have keys:=iK h2
 exact {
  kind:=by
   revert h1
   cases scope.kind <;> simp
  keys:=keys
  names:=fun y hy e=>by rw [← e];exact fY keys hy
  free:=fun n hn=>by
   have:=List.all_eq_true.mp h3 _ hn
   show X.env.scope.names.lookup n=some .cell∨X.env.scope.names.lookup n=some .free
   revert this
   simp only
   split
   ·rename_i e;intro _;exact .inl e
   ·rename_i e;intro _;exact .inr e
   ·intro z;cases z
  frs:=fun j hj=>by
   have:=List.all_eq_true.mp h4 _ hj
   rw [Bool.and_eq_true,decide_eq_true_eq] at this
   refine ⟨this.1,?_⟩
   have z:=this.2
   revert z
   split
   ·rename_i e;intro _;exact e
   ·intro z;cases z
  nd:=iK h5 }
theorem Kq:bootBuiltins "abs" = some (.builtin "abs"):=by first | exact PyProof.Rows.boot_abs | exact PySem.boot_abs
theorem DP:bootBuiltins "min" = some (.builtin "min"):=by first | exact PyProof.Rows.boot_min | exact PySem.boot_min
theorem Kr:bootBuiltins "max" = some (.builtin "max"):=by first | exact PyProof.Rows.boot_max | exact PySem.boot_max
theorem jD:bootBuiltins "len" = some (.builtin "len"):=by first | exact PyProof.Rows.boot_len | exact PySem.boot_len
theorem bW:bootBuiltins "isinstance" = some (.builtin "isinstance"):=by first | exact PyProof.Rows.boot_isinstance | exact PySem.boot_isinstance
theorem jC:bootBuiltins "all" = some (.builtin "all"):=by first | exact PyProof.Rows.boot_all | exact PySem.boot_all
theorem uV:bootBuiltins "int" = some (.type "int"):=by first | exact PyProof.Rows.boot_int | exact PySem.boot_int
theorem nq:bootBuiltins "bool" = some (.type "bool"):=by first | exact PyProof.Rows.boot_bool | exact PySem.boot_bool
theorem gD:bootBuiltins "tuple" = some (.type "tuple"):=by first | exact PyProof.Rows.boot_tuple | exact PySem.boot_tuple
theorem zQ:bootBuiltins "list" = some (.type "list"):=by first | exact PyProof.Rows.boot_list | exact PySem.boot_list
end L2
namespace L2
open PySem PySem.Spec PyProof.Rows
def Fp (i:Nat) (ρ ρ':En) (r:D):Prop:=r.clean=true ∧ ∀ (j:Nat) (dj:D),j≠i -> ρ'[j]? = some (some dj)->dj.clean=true∨(dj.sh=true ∧ ρ[j]? = some (some dj))
def Kc (i:Nat) (s:bA):bA:=fun ρ Q=>∃ d,ρ[i]? = some (some d)∧s (ρ.set i (some d.fz)) fun r ρ'=>(Fp i ρ ρ' r∧Q r (ρ'.set i (some d)))∨Q r ρ'
def rE (ρ : En):List Nat->En
 | []=>ρ
 | j :: js=>(rE ρ js).set j none
def lJ (js:List Nat) (b:cP):cP:=fun ρ E=>b (rE ρ js) E
theorem WS.drop {K:PySem.W.Frag} {F:Addr->Prop} {H:Hp} {σ : St} {ρ : En} {Ls:Nat->List Addr} {R:List Addr} (j:Nat) (w:WS K F H σ ρ Ls R):WS K F H σ (ρ.set j none) (jo Ls j []) R where
 len:=by rw [List.length_set];exact w.len
 sl:=fun i d e=>by
  by_cases c:i=j
  ·subst c
   rw [List.getElem?_set] at e
   simp at e
  ·rw [List.getElem?_set_ne (Ne.symm c)] at e
   rw [aX c];exact w.sl i d e
 em:=fun i hi=>by
  by_cases c:i=j
  ·rw [c,aM]
  ·rw [aX c]
   exact w.em i fun d e=>hi d (by rw [List.getElem?_set_ne (Ne.symm c)];exact e)
 nd:=fun i=>by
  by_cases c:i=j
  ·rw [c,aM];exact List.nodup_nil
  ·rw [aX c];exact w.nd i
 dj:=fun i k a h1 h2=>by
  by_cases c:i=j
  ·rw [c,aM] at h1;simp at h1
  ·by_cases c2:k=j
   ·rw [c2,aM] at h2;simp at h2
   ·rw [aX c] at h1;rw [aX c2] at h2;exact w.dj i k a h1 h2
 rd:=w.rd
 rj:=fun i a m=>by
  by_cases c:i=j
  ·rw [c,aM] at m;simp at m
  ·rw [aX c] at m;exact w.rj i a m
 nf:=fun i a m=>by
  by_cases c:i=j
  ·rw [c,aM] at m;simp at m
  ·rw [aX c] at m;exact w.nf i a m
 nr:=w.nr
 tr:=w.tr
 ft:=w.ft
theorem Step.drop {F:Addr->Prop} {H:Hp} {Ls:Nat->List Addr} (j:Nat):Step F H Ls F H (jo Ls j []) []:=⟨fun _ _ e _=>e,fun _ h=>h,fun i a m=>by
 by_cases c:i=j
 ·rw [c,aM] at m;simp at m
 ·rw [aX c] at m;exact .inl ⟨i,m⟩,fun a h=>absurd h (by simp)⟩
theorem WS.drops {K:PySem.W.Frag} {F:Addr->Prop} {H:Hp} {σ : St} {ρ : En} {Ls:Nat->List Addr} {R:List Addr} (w:WS K F H σ ρ Ls R):∀ js:List Nat,∃ Ls',WS K F H σ (rE ρ js) Ls' R∧Step F H Ls F H Ls' []
 | []=>⟨Ls,w,Step.refl⟩
 | j :: js=>let ⟨L1,w1,s1⟩:=WS.drops w js;⟨_,w1.drop j,s1.trans (Step.drop j)⟩
theorem vU {X:Cx} {kp:Nat->Bool} {st:List Stmt} {b:cP} (js:List Nat) (h:SL X kp st b):SL X kp st (lJ js b):=
 PSs.wk h fun D σ H ⟨F,ρ,Ls,R,E,w,q,p⟩=>by
  obtain ⟨L1,w1,s1⟩:=w.drops js
  exact ⟨F,_,L1,R,E,w1,q,p.step s1 fun _ _=>rfl⟩
end L2
namespace Z
open PySem L2
def ik:cW:=fnS 2 3 false
 (aD (bD 2 (sC (.int 0)))
 (aD (sIf (tB' (sDo dLt [.nam 1,.val (sDo jQ [.nam 0])]))
 (bD 2 (sDo DW [.val (bH 0 (.nam 1))]))
 (bF))
 (aD (bD 3 (sDo jG [.val (sDo oV [.val (sDo cC [.val (sDo cC [.val (sDo jG [.nam 2,.val (sC (.int 2147483629))]),.val (sDo mF [.val (sC (.int 104729)),.nam 1])]),.val (sC (.int 17))]),.val (sC (.int 5))]),.val (sC (.int 2147483647))]))
 (aD (gU (cG (.val (sDo wJ [.val (sDo jQ [.nam 0]),.val (sC (.int 60))]))) (gN 4)
 (bD 3 (sDo jG [.val (sDo cC [.val (sDo cC [.val (sDo mF [.nam 3,.val (sC (.int 48271))]),.val (sDo mF [.val (sDo jG [.val (bH 0 (.nam 4)),.val (sC (.int 2147483587))]),.val (sDo cC [.nam 4,.val (sC (.int 3))])])]),.nam 4]),.val (sC (.int 2147483629))])))
 (aD (sIf (tB' (sDo dLt [.nam 2,.val (sDo oV [.val (sC (.int 10)),.val (sC (.int 18))])]))
 (bD 2 (sC (.int 0)))
 (bF))
 (bI (fj [.val (cu 2),.val (cu 3)])))))))
def aq:cW:=fnS 2 1 true
 (aD (sIf (tB' (sDo dGt [.val (bH 0 (.val (sC (.int 0)))),.val (sC (.int 0))]))
 (aD (bD 2 (sDo jG [.val (bH 0 (.val (sC (.int 0)))),.nam 1]))
 (aD (sX 0 (sDo pZ [.val (bH 0 (.val (sC (.int 0)))),.nam 1]) (.val (sC (.int 0))))
 (Bt 2)))
 (bF))
 (aD (sX 0 (sDo jG [.val (sDo cC [.val (sDo mF [.val (bH 0 (.val (sC (.int 1)))),.val (sC (.int 48271))]),.val (sC (.int 7919))]),.val (sC (.int 2147483647))]) (.val (sC (.int 1))))
 (bI (sDo jG [.val (sDo jG [.val (sDo mF [.val (sDo pZ [.val (sDo jG [.val (sDo oV [.val (bH 0 (.val (sC (.int 1)))),.val (sC (.int 3))]),.val (sC (.int 2147483587))]),.val (sC (.int 7))]),.val (sC (.int 69621))]),.val (sC (.int 1073741789))]),.nam 1]))))
end Z
namespace L2
open PySem PySem.Spec PyProof.Rows
def aH {α : Type} (o:Option α) (k : α -> Prop):Prop:=∃ a,o=some a∧k a
theorem yL {α : Type} (a : α) (k : α -> Prop):aH (some a) k=k a:=by simp [aH]
theorem yK {α : Type} (k : α -> Prop):aH none k=False:=by simp [aH]
def dJ (a b:Prop):Prop:=a∧b
theorem BX (b:Prop):dJ True b=b:=by simp [dJ]
theorem yJ (b:Prop):dJ False b=False:=by simp [dJ]
def jK (c:Bool) (a b:Prop):Prop:=if c=true then a else b
theorem uA (a b:Prop):jK true a b=a:=by simp [jK]
theorem rN (a b:Prop):jK false a b=b:=by simp [jK]
theorem HD {c:Prop} [Decidable c] {a b:Prop} (h1:c->a) (h2:¬ c->b):jK (decide c) a b:=by
 unfold jK
 by_cases h:c
 ·rw [if_pos (by simpa using h)];exact h1 h
 ·rw [if_neg (by simpa using h)];exact h2 h
theorem KJ {c:Bool} {a b:Prop} (h1:c=true->a) (h2:c=false->b):jK c a b:=by
 cases c with
 | true=>rw [uA];exact h1 rfl
 | false=>rw [rN];exact h2 rfl
def wz (f:cW) (ds:List D) (Q:D->Option D->Prop):Prop:=f ds Q
def slot:En->Nat->Option D
 | [],_=>none
 | x :: _,0=>x
 | _ :: r,n+1=>slot r n
theorem cg:∀ {ρ : En} {i:Nat} {d:D},ρ[i]? = some (some d)↔slot ρ i=some d
 | [],i,d=>by simp [slot]
 | x :: r,0,d=>by simp [slot]
 | x :: r,i+1,d=>by simp only [List.getElem?_cons_succ,slot];exact cg
theorem slot_cons0 (x:Option D) (r:En):slot (x :: r) 0=x:=rfl
theorem slot_consS (x:Option D) (r:En) (n:Nat):slot (x :: r) (n+1)=slot r n:=rfl
theorem getAD_nam (ρ : En) (i:Nat):AD.get ρ (.nam i)=slot ρ i:=by
 show (ρ[i]?).getD none=_
 cases h : ρ[i]? with
 | none=>
  cases q:slot ρ i with
  | none=>rfl
  | some d=>rw [cg.mpr q] at h;cases h
 | some o=>
  cases o with
  | none=>
   cases q:slot ρ i with
   | none=>rfl
   | some d=>rw [cg.mpr q] at h;cases h
  | some d=>rw [cg.mp h];rfl
theorem getAD_val (ρ : En) (d:D):AD.get ρ (.val d)=some d:=rfl
theorem getAll_nil (ρ : En):bc ρ []=some []:=rfl
def ut (o:Option D) (os:Option (List D)):Option (List D):=match o,os with
 | some d,some ds=>some (d :: ds)
 | _,_=>none
theorem consO_some (d:D) (ds:List D):ut (some d) (some ds)=some (d :: ds):=rfl
theorem getAll_cons' (ρ : En) (a:AD) (as:List AD):bc ρ (a :: as)=ut (a.get ρ) (bc ρ as):=by
 rw [bc];unfold ut;rfl
section
variable (ρ : En) (Q:D->En->Prop) (E:EndD) (QB:Bool->En->Prop)
theorem ev_C (d:D):sC d ρ Q=Q d ρ:=rfl
theorem ev_Var (i:Nat):cu i ρ Q=aH (slot ρ i) fun d=>jK d.sh (Q d ρ) (Q d.fz (ρ.set i (some d.fz))):=by
 simp only [cu,aH,cg,jK]
theorem ev_ops_nil (K:List AD->En->Prop):dq [] ρ K=K [] ρ:=rfl
theorem ev_ops_val (s:bA) (os:List Opd) (K:List AD->En->Prop):dq (.val s :: os) ρ K=s ρ fun d ρ1=>dq os ρ1 fun as ρ2=>K (.val d :: as) ρ2:=rfl
theorem ev_ops_nam (i:Nat) (os:List Opd) (K:List AD->En->Prop):dq (.nam i :: os) ρ K=aH (slot ρ i) fun _=>dq os ρ fun as ρ2=>K (.nam i :: as) ρ2:=by
 simp only [dq,aH,cg,exists_and_right]
theorem ev_Do (g:List D->Option D) (os:List Opd):sDo g os ρ Q=dq os ρ fun as ρ'=>aH (bc ρ' as) fun ds=>aH (g ds) fun f=>Q f ρ':=by
 simp only [sDo,aH]
 congr 1
 funext as ρ'
 simp only [exists_and_left]
theorem ev_Tup (os:List Opd):eH os ρ Q=dq os ρ fun as ρ'=>aH (bc ρ' as) fun ds=>dJ (namsSh ρ' as=true) (dJ (ds.length<=sizeLine) (Q (.tup ds) ρ')):=by
 simp only [eH,aH,dJ]
theorem ev_Lst (os:List Opd):fj os ρ Q=dq os ρ fun as ρ'=>aH (bc ρ' as) fun ds=>dJ (namsSh ρ' as=true) (dJ (ds.length<=sizeLine) (Q (.lst true ds) ρ')):=by
 simp only [fj,aH,dJ]
def D.bo:D->Option Bool
 | .bl b=>some b
 | _=>none
theorem ev_B (s:bA):tB' s ρ QB=s ρ fun d ρ'=>aH d.bo fun b=>QB b ρ':=by
 simp only [tB',aH]
 congr 1
 funext d ρ'
 cases d <;> simp [D.bo]
theorem ev_And (t u:dR):tE t u ρ QB=t ρ fun b ρ'=>jK b (u ρ' QB) (QB false ρ'):=rfl
theorem ev_Or (t u:dR):fu t u ρ QB=t ρ fun b ρ'=>jK b (QB true ρ') (u ρ' QB):=rfl
theorem ev_Not (t:dR):bB t ρ QB=t ρ fun b ρ'=>QB (!b) ρ':=rfl
theorem ev_AndV (s u:bA):dG s u ρ Q=s ρ fun d ρ'=>aH d.bo fun b=>jK b (u ρ' Q) (Q (.bl false) ρ'):=by
 simp only [dG,aH,jK]
 congr 1
 funext d ρ'
 cases d <;> simp [D.bo]
theorem ev_OrV (s u:bA):PL s u ρ Q=s ρ fun d ρ'=>aH d.bo fun b=>jK b (Q (.bl true) ρ') (u ρ' Q):=by
 simp only [PL,aH,jK]
 congr 1
 funext d ρ'
 cases d <;> simp [D.bo]
theorem ev_NotV (s:bA):yp s ρ Q=s ρ fun d ρ'=>aH d.bo fun b=>Q (.bl (!b)) ρ':=by
 simp only [yp,aH]
 congr 1
 funext d ρ'
 cases d <;> simp [D.bo]
theorem ev_IfE (t:dR) (s u:bA):MT t s u ρ Q=t ρ fun b ρ'=>jK b (s ρ' Q) (u ρ' Q):=rfl
def oneO:Option (List D)->Option D
 | some [d]=>some d
 | _=>none
theorem ev_Tru (o:Opd):bU o ρ QB=dq [o] ρ fun as ρ'=>aH (oneO (bc ρ' as)) fun d=>aH d.tru fun b=>QB b ρ':=by
 simp only [bU,aH]
 congr 1
 funext as ρ'
 apply propext
 constructor
 ·rintro ⟨d,b,h1,h2,h3⟩
  exact ⟨d,by rw [h1];rfl,b,h2,h3⟩
 ·rintro ⟨d,h1,b,h2,h3⟩
  refine ⟨d,b,?_,h2,h3⟩
  revert h1
  unfold oneO
  split
  ·rename_i e;intro z;cases z;exact e
  ·intro z;cases z
theorem ev_Call (n:Nat) (f:cW) (os:List Opd):aF n f os ρ Q=dq os ρ fun as ρ'=>aH (bc ρ' as) fun ds=>dJ (ds.length=n) (wz f (D.fzs ds) fun r _=>Q r (aft ρ' as r.clean)):=by
 simp only [aF,aH,dJ,wz]
theorem ev_CallM (n:Nat) (f:cW) (i:Nat) (os:List Opd):aA n f i os ρ Q=aH (slot ρ i) fun _=>dq os ρ fun as ρ'=>aH (slot ρ' i) fun d0=>aH (bc ρ' as) fun ds=>
  dJ (ds.length+1=n) (dJ (i ∉ namsOf as) (wz f (d0 :: D.fzs ds) fun r x=>dJ ((namsSh ρ' as||(r.clean&&clO x))=true) (Q r (ρ'.set i x)))):=by
 unfold aA
 rw [ev_ops_nam]
 simp only [aH,dJ,wz,cg]
 congr 1
 funext a
 congr 1
 congr 1
 funext as ρ'
 apply propext
 constructor
 ·rintro ⟨d0,as',ds,e,h1,h2,h3,h4,h5⟩
  cases e
  exact ⟨d0,h1,ds,h2,h3,h4,h5⟩
 ·rintro ⟨d0,h1,ds,h2,h3,h4,h5⟩
  exact ⟨d0,as,ds,rfl,h1,h2,h3,h4,h5⟩
theorem nW {as:List AD} {kd:D} (h:oneO (bc ρ as)=some kd):∃ a,as=[a]∧a.get ρ = some kd:=by
 cases as with
 | nil=>simp [bc,oneO] at h
 | cons a r=>
  cases r with
  | nil=>
   refine ⟨a,rfl,?_⟩
   rw [getAll_cons',getAll_nil] at h
   cases q:a.get ρ with
   | none=>rw [q] at h;simp [ut,oneO] at h
   | some d=>rw [q] at h;simp [ut,oneO] at h;rw [h]
  | cons b r=>
   rw [getAll_cons',getAll_cons'] at h
   cases q:a.get ρ <;> cases q2:b.get ρ <;> cases q3:bc ρ r <;> simp [q,q2,q3,ut,oneO] at h
theorem Bb {a:AD} {kd:D} (h:a.get ρ = some kd):oneO (bc ρ [a])=some kd:=by
 rw [getAll_cons',getAll_nil,h];rfl
def D.intO:D->Option Int
 | .int k=>some k
 | _=>none
theorem jU {d:D} {k:Int}:d.intO=some k↔d = .int k:=by cases d <;> simp [D.intO]
theorem ev_IxN (i:Nat) (oi:Opd):bH i oi ρ Q=aH (slot ρ i) fun _=>dq [oi] ρ fun as ρ'=>aH (slot ρ' i) fun c=>aH (oneO (bc ρ' as)) fun kd=>aH kd.intO fun k=>aH (ixF c k) fun p=>Q p.1 (putO ρ' i p.2):=by
 unfold bH
 rw [ev_ops_nam]
 congr 1
 funext _
 congr 1
 funext as ρ'
 apply propext
 simp only [aH,cg]
 constructor
 ·rintro ⟨a,c,k,f,t,e,h1,h2,h3,h4⟩
  cases e
  exact ⟨c,h1,_,Bb ρ' h2,k,rfl,(f,t),h3,h4⟩
 ·rintro ⟨c,h1,kd,h2,k,h3,⟨f,t⟩,h4,h5⟩
  obtain ⟨a,rfl,h6⟩:=nW ρ' h2
  rw [jU.mp h3] at h6
  exact ⟨a,c,k,f,t,rfl,h1,h6,h4,h5⟩
def D.ownO:D->Option (List D)
 | .lst true ds=>some ds
 | _=>none
theorem yf {d:D} {ds:List D}:d.ownO=some ds↔d = .lst true ds:=by
 cases d with
 | lst o ds'=>cases o <;> simp [D.ownO]
 | _=>simp [D.ownO]
def D.isLst:D->Bool
 | .lst _ _=>true
 | _=>false
theorem ev_Mut (g:wj) (i:Nat) (os:List Opd):lW g i os ρ Q=aH (slot ρ i) fun d0=>dJ (d0.isLst=true) (dq os ρ fun as ρ'=>aH (slot ρ' i) fun c=>aH c.ownO fun ds=>aH (bc ρ' as) fun es=>dJ (namsSh ρ' as=true) (aH (g ds es) fun p=>Q p.2 (ρ'.set i (some (.lst true p.1))))):=by
 unfold lW
 simp only [aH,dJ,cg]
 have e:(fun (as:List AD) (ρ':En)=>∃ ds es ds' rd,slot ρ' i=some (.lst true ds)∧bc ρ' as=some es∧namsSh ρ' as=true∧g ds es=some (ds',rd)∧Q rd (ρ'.set i (some (.lst true ds')))) =
   fun as ρ'=>∃ a,slot ρ' i=some a ∧ ∃ a_1,a.ownO=some a_1 ∧ ∃ a,bc ρ' as=some a∧namsSh ρ' as=true ∧ ∃ a_2,g a_1 a=some a_2∧Q a_2.2 (ρ'.set i (some (.lst true a_2.1))):=by
  funext as ρ'
  apply propext
  constructor
  ·rintro ⟨ds,es,ds',rd,h1,h2,h3,h4,h5⟩
   exact ⟨_,h1,ds,rfl,es,h2,h3,(ds',rd),h4,h5⟩
  ·rintro ⟨c,h1,ds,h2,es,h3,h4,⟨ds',rd⟩,h5,h6⟩
   exact ⟨ds,es,ds',rd,by rw [h1,yf.mp h2],h3,h4,h5,h6⟩
 rw [e]
 apply propext
 constructor
 ·rintro ⟨⟨o,ds,h1⟩,h2⟩
  exact ⟨_,h1,rfl,h2⟩
 ·rintro ⟨d0,h1,h2,h3⟩
  refine ⟨?_,h3⟩
  cases d0 with
  | lst o ds=>exact ⟨o,ds,h1⟩
  | _=>cases h2
theorem ev_Chain (g g':List D->Option D) (o1 o2 o3:Opd):lH g g' o1 o2 o3 ρ Q=dq [o1,o2] ρ fun as ρ1=>aH (match bc ρ1 as with | some [d,.int j]=>some (d,j) | _=>none) fun p=>aH ((g [p.1,.int p.2]).bind D.bo) fun b=>
  jK b (dq [o3] ρ1 fun as2 ρ2=>aH (oneO (bc ρ2 as2)) fun f=>aH ((g' [.int p.2,f]).bind D.bo) fun c=>Q (.bl c) ρ2) (Q (.bl false) ρ1):=by
 have bo:∀ {o:Option D} {b:Bool},o.bind D.bo=some b↔o=some (.bl b):=fun {o b}=>by
  cases o with
  | none=>simp
  | some d=>cases d <;> simp [D.bo]
 unfold lH
 congr 1
 funext as ρ1
 apply propext
 simp only [aH,jK,bo]
 have two:∀ {p:D×Int},(match bc ρ1 as with | some [d,.int j]=>some (d,j) | _=>none)=some p↔bc ρ1 as=some [p.1,.int p.2]:=fun {p}=>by
  split
  ·rename_i d j e
   constructor
   ·intro z;cases z;exact e
   ·intro z;rw [e] at z;cases z;rfl
  ·rename_i h
   constructor
   ·intro z;cases z
   ·intro z;exact absurd z (h _ _)
 have inner:∀ (j:Int),(dq [o3] ρ1 fun as2 ρ2=>∃ f c,bc ρ2 as2=some [f]∧g' [.int j,f]=some (.bl c)∧Q (.bl c) ρ2)=(dq [o3] ρ1 fun as2 ρ2=>∃ f,oneO (bc ρ2 as2)=some f ∧ ∃ c,g' [.int j,f]=some (.bl c)∧Q (.bl c) ρ2):=fun j=>by
  congr 1
  funext as2 ρ2
  apply propext
  constructor
  ·rintro ⟨f,c,h1,h2,h3⟩
   exact ⟨f,by rw [h1];rfl,c,h2,h3⟩
  ·rintro ⟨f,h1,c,h2,h3⟩
   obtain ⟨a,rfl,h6⟩:=nW ρ2 h1
   exact ⟨f,c,by rw [getAll_cons',getAll_nil,h6];rfl,h2,h3⟩
 constructor
 ·rintro ⟨d,j,b,h1,h2,h3⟩
  exact ⟨(d,j),two.mpr h1,b,h2,by rw [← inner];exact h3⟩
 ·rintro ⟨⟨d,j⟩,h1,b,h2,h3⟩
  exact ⟨d,j,b,two.mp h1,h2,by rw [inner];exact h3⟩
theorem ev_Seq (s u:cP):aD s u ρ E=s ρ ⟨fun ρ'=>u ρ' E,E.rt,E.bk,E.ct⟩:=rfl
theorem ev_Next:bF ρ E=E.nx ρ:=rfl
theorem ev_Never:zE ρ E=False:=rfl
theorem ev_Break:MP ρ E=E.bk ρ:=rfl
theorem ev_Cont:PK ρ E=E.ct ρ:=rfl
theorem ev_If (t:dR) (s u:cP):sIf t s u ρ E=t ρ fun b ρ'=>jK b (s ρ' E) (u ρ' E):=rfl
theorem ev_Expr (e:bA):jW e ρ E=e ρ fun _ ρ'=>E.nx ρ':=rfl
theorem ev_Ret (e:bA):bI e ρ E=e ρ fun d ρ'=>E.rt d ρ':=rfl
theorem ev_RetN:PQ ρ E=E.rt .non ρ:=rfl
theorem ev_RetV (i:Nat):Bt i ρ E=aH (slot ρ i) fun d=>E.rt d (ρ.set i none):=by simp only [Bt,aH,cg]
theorem ev_Set (i:Nat) (e:bA):bD i e ρ E=e ρ fun d ρ'=>E.nx (ρ'.set i (some d)):=rfl
theorem ev_Asg (g:fc) (e:bA):vN g e ρ E=e ρ fun d ρ'=>g d ρ' E.nx:=rfl
theorem ev_gN (i:Nat) (d:D) (P:En->Prop):gN i d ρ P=P (ρ.set i (some d)):=rfl
def D.tupO:D->Option (List D)
 | .tup ds=>some ds
 | _=>none
theorem ev_gT (gs:List fc) (d:D) (P:En->Prop):gT gs d ρ P=aH d.tupO fun ds=>gGo gs ds ρ P:=by
 cases d <;> simp [gT,aH,D.tupO]
theorem ev_gGo_nil (P:En->Prop):gGo [] [] ρ P=P ρ:=rfl
theorem ev_gGo_cons (g:fc) (gs:List fc) (d:D) (ds:List D) (P:En->Prop):gGo (g :: gs) (d :: ds) ρ P=g d ρ fun ρ'=>gGo gs ds ρ' P:=rfl
def twoO:Option (List D)->Option (D×D)
 | some [d,e]=>some (d,e)
 | _=>none
theorem yE {o:Option (List D)} {p:D×D}:twoO o=some p↔o=some [p.1,p.2]:=by
 unfold twoO
 split
 ·constructor
  ·intro z;cases z;rfl
  ·intro z;cases z;rfl
 ·rename_i h
  constructor
  ·intro z;cases z
  ·intro z;exact absurd z (h _ _)
theorem ev_Par (i j:Nat) (os:List Opd):PP i j os ρ E=dq os ρ fun as ρ'=>aH (twoO (bc ρ' as)) fun p=>dJ (namsSh ρ' as=true) (E.nx ((ρ'.set i (some p.1)).set j (some p.2))):=by
 simp only [PP,aH,dJ,yE]
 congr 1
 funext as ρ'
 apply propext
 constructor
 ·rintro ⟨d,e,h1,h2,h3⟩;exact ⟨(d,e),h1,h2,h3⟩
 ·rintro ⟨⟨d,e⟩,h1,h2,h3⟩;exact ⟨d,e,h1,h2,h3⟩
theorem ev_Aug (f:Int->Int->Int) (i:Nat) (se:bA):PJ f i se ρ E=aH ((slot ρ i).bind D.intO) fun n=>se ρ fun d ρ'=>aH d.intO fun m=>E.nx (ρ'.set i (some (.int (f n m)))):=by
 simp only [PJ,aH,cg,jU,Option.bind_eq_some_iff]
 apply propext
 constructor
 ·rintro ⟨n,h1,h2⟩;exact ⟨n,⟨_,h1,rfl⟩,h2⟩
 ·rintro ⟨n,⟨d,h1,h2⟩,h3⟩;exact ⟨n,by rw [h1,h2],h3⟩
theorem ev_SetIx (i:Nat) (se:bA) (oi:Opd):sX i se oi ρ E=aH (slot ρ i) fun _=>se ρ fun d ρ1=>dq [oi] ρ1 fun as ρ'=>aH (oneO (bc ρ' as)) fun kd=>aH kd.intO fun k=>aH (slot ρ' i) fun c=>aH c.ownO fun ds=>aH (ixN ds.length k) fun j=>E.nx (ρ'.set i (some (.lst true (ds.set j d)))):=by
 unfold sX
 simp only [ev_ops_val]
 apply propext
 have e:(fun (d:D) (ρ1:En)=>dq [oi] ρ1 fun as ρ2=>∃ d_1 a ds k j,AD.val d :: as=[.val d_1,a]∧a.get ρ2=some (.int k) ∧ ρ2[i]? = some (some (.lst true ds))∧ixN ds.length k=some j∧E.nx (ρ2.set i (some (.lst true (ds.set j d_1))))) =
   fun d ρ1=>dq [oi] ρ1 fun as ρ'=>aH (oneO (bc ρ' as)) fun kd=>aH kd.intO fun k=>aH (slot ρ' i) fun c=>aH c.ownO fun ds=>aH (ixN ds.length k) fun j=>E.nx (ρ'.set i (some (.lst true (ds.set j d)))):=by
  funext d ρ1
  congr 1
  funext as ρ'
  apply propext
  simp only [aH]
  constructor
  ·rintro ⟨d1,a,ds,k,j,h0,h1,h2,h3,h4⟩
   cases h0
   exact ⟨_,Bb ρ' h1,k,rfl,_,cg.mp h2,ds,rfl,j,h3,h4⟩
  ·rintro ⟨kd,h1,k,h2,c,h3,ds,h4,j,h5,h6⟩
   obtain ⟨a,rfl,h7⟩:=nW ρ' h1
   exact ⟨d,a,ds,k,j,rfl,by rw [h7,jU.mp h2],by rw [cg,h3,yf.mp h4],h5,h6⟩
 rw [e]
 simp only [aH,cg]
 constructor
 ·rintro ⟨⟨d,h1⟩,h2⟩;exact ⟨d,h1,h2⟩
 ·rintro ⟨d,h1,h2⟩;exact ⟨⟨d,h1⟩,h2⟩
theorem ev_For (i:mZ) (g:fc) (b:cP):gU i g b ρ E=i ρ fun ds ρ'=>forL g b ds ρ' E:=rfl
theorem ev_Comp (si:mZ) (nO:Nat) (fr:List Nat) (g:fc) (t:dR) (el:bA):gW si nO fr g t el ρ Q=si ρ fun ds ρ1=>jO g t el ds (cSt nO fr ρ1) fun es ρc=>Q (.lst true es) (wb ρ1 fr (ρc.drop nO)):=rfl
theorem ev_Yes:jN ρ QB=QB true ρ:=rfl
variable (QI:List D->En->Prop)
theorem ev_Range1 (o:Opd):cG o ρ QI=dq [o] ρ fun as ρ'=>aH (oneO (bc ρ' as)) fun d=>aH d.intO fun j=>dJ (-(2 ^ 62)<=j∧j<2 ^ 62∧j.toNat<=sizeLine) (QI (mQ 0 j.toNat) ρ'):=by
 unfold cG
 congr 1
 funext as ρ'
 apply propext
 simp only [aH,dJ]
 constructor
 ·rintro ⟨j,h1,h2,h3⟩;exact ⟨_,by rw [h1];rfl,j,rfl,h2,h3⟩
 ·rintro ⟨d,h1,j,h2,h3,h4⟩
  obtain ⟨a,rfl,h7⟩:=nW ρ' h1
  exact ⟨j,by rw [getAll_cons',getAll_nil,h7,jU.mp h2];rfl,h3,h4⟩
theorem ev_Range2 (o o':Opd):nR o o' ρ QI=dq [o,o'] ρ fun as ρ'=>aH (twoO (bc ρ' as)) fun p=>aH p.1.intO fun i=>aH p.2.intO fun j=>dJ (-(2 ^ 62)<=i∧i<2 ^ 62 ∧ -(2 ^ 62)<=j∧j<2 ^ 62∧(j - i).toNat<=sizeLine) (QI (mQ i (j - i).toNat) ρ'):=by
 unfold nR
 congr 1
 funext as ρ'
 apply propext
 simp only [aH,dJ,yE]
 constructor
 ·rintro ⟨i,j,h1,h2,h3⟩;exact ⟨(_,_),h1,i,rfl,j,rfl,h2,h3⟩
 ·rintro ⟨⟨d,e⟩,h1,i,h2,j,h3,h4,h5⟩
  exact ⟨i,j,by rw [h1,jU.mp h2,jU.mp h3],h4,h5⟩
def D.seqO:D->Option (List D)
 | .lst _ ds=>some (D.fzs ds)
 | .tup ds=>some (D.fzs ds)
 | .scr ns=>some (ns.map D.int)
 | _=>none
theorem ev_Seq' (s:bA):jn s ρ QI=s ρ fun d ρ'=>aH d.seqO fun ds=>dJ (ds.length<=sizeLine) (QI ds ρ'):=by
 unfold jn
 congr 1
 funext d ρ'
 cases d <;> simp [aH,dJ,D.seqO,D.fzs_eq]
def D.lstO:D->Option (List D)
 | .lst _ ds=>some (D.fzs ds)
 | _=>none
theorem ev_Zip (s u:bA):JR s u ρ QI=s ρ fun d ρ1=>u ρ1 fun e ρ2=>aH d.lstO fun xs=>aH e.lstO fun ys=>dJ (xs.length<=sizeLine) (QI (QC xs ys) ρ2):=by
 unfold JR
 simp only [ev_ops_val,ev_ops_nil]
 congr 1
 funext d ρ1
 congr 1
 funext e ρ2
 apply propext
 simp only [aH,dJ]
 constructor
 ·rintro ⟨o,xs,o',ys,h,h2,h3⟩
  cases h
  exact ⟨_,rfl,_,rfl,by rw [D.fzs_eq,List.length_map];exact h2,h3⟩
 ·rintro ⟨xs,h1,ys,h2,h3,h4⟩
  cases d with
  | lst o xs'=>
   cases e with
   | lst o' ys'=>
    cases h1;cases h2
    exact ⟨o,xs',o',ys',rfl,by rw [D.fzs_eq,List.length_map] at h3;exact h3,h4⟩
   | _=>cases h2
  | _=>cases h1
theorem ev_Enum (s:bA):Ey s ρ QI=s ρ fun d ρ1=>aH d.lstO fun xs=>dJ (xs.length<=sizeLine) (QI (Ep 0 xs) ρ1):=by
 unfold Ey
 simp only [ev_ops_val,ev_ops_nil]
 congr 1
 funext d ρ1
 apply propext
 simp only [aH,dJ]
 constructor
 ·rintro ⟨o,xs,h,h2,h3⟩
  cases h
  exact ⟨_,rfl,by rw [D.fzs_eq,List.length_map];exact h2,h3⟩
 ·rintro ⟨xs,h1,h3,h4⟩
  cases d with
  | lst o xs'=>
   cases h1
   exact ⟨o,xs',rfl,by rw [D.fzs_eq,List.length_map] at h3;exact h3,h4⟩
  | _=>cases h1
end
theorem ev_fn (n m:Nat) (io:Bool) (b:cP) (ds:List D) (Q:D->Option D->Prop):fnS n m io b ds Q=dJ (ds.length=n) (b (ds.map some++List.replicate m none) ⟨fun ρ => Q .non (qu io ρ),fun d ρ => Q d (qu io ρ),fun _=>False,fun _=>False⟩):=rfl
theorem nx_mk (a:En->Prop) (b:D->En->Prop) (c d:En->Prop) (ρ : En):EndD.nx ⟨a,b,c,d⟩ ρ = a ρ:=rfl
theorem rt_mk (a:En->Prop) (b:D->En->Prop) (c d:En->Prop) (x:D) (ρ : En):EndD.rt ⟨a,b,c,d⟩ x ρ = b x ρ:=rfl
theorem bk_mk (a:En->Prop) (b:D->En->Prop) (c d:En->Prop) (ρ : En):EndD.bk ⟨a,b,c,d⟩ ρ = c ρ:=rfl
theorem ct_mk (a:En->Prop) (b:D->En->Prop) (c d:En->Prop) (ρ : En):EndD.ct ⟨a,b,c,d⟩ ρ = d ρ:=rfl
theorem ioOf_f (ρ : En):qu false ρ = none:=rfl
theorem ioOf_t (ρ : En):qu true ρ = slot ρ 0:=by
 unfold qu
 rw [if_pos rfl]
 exact getAD_nam ρ 0
theorem namsSh_val (ρ : En) (d:D) (as:List AD):namsSh ρ (.val d :: as)=namsSh ρ as:=rfl
theorem namsSh_nam (ρ : En) (i:Nat) (as:List AD):namsSh ρ (.nam i :: as)=((match slot ρ i with | some d=>d.sh | none=>true)&&namsSh ρ as):=by
 show ((match ρ[i]? with | some (some d)=>d.sh | _=>true)&&namsSh ρ as)=_
 congr 1
 cases h:slot ρ i with
 | some d=>rw [cg.mpr h]
 | none=>
  split
  ·rename_i d e;rw [cg.mp e] at h;cases h
  ·rfl
end L2
namespace L2
theorem aft_ev (ρ : En) (as:List AD) (b:Bool):aft ρ as b=cond (namsSh ρ as||b) ρ (cX ρ (namsOf as)):=by
 unfold aft
 cases (namsSh ρ as||b) <;> rfl
theorem shAll_nil (ρ : En):cX ρ [] = ρ:=rfl
theorem shAll_cons (ρ : En) (i:Nat) (is:List Nat):cX ρ (i :: is)=(match slot (cX ρ is) i with | some d=>(cX ρ is).set i (some d.fz) | none=>cX ρ is):=by
 show (match (cX ρ is)[i]? with | some (some d)=>(cX ρ is).set i (some d.fz) | _=>cX ρ is)=_
 cases h:slot (cX ρ is) i with
 | some d=>rw [cg.mpr h]
 | none=>
  split
  ·rename_i d e;rw [cg.mp e] at h;cases h
  ·rfl
end L2
namespace L2
open PySem
inductive Lz {α : Sort u} (a : α):Type where
 | mk
def lz {α : Sort u} (a : α):Lz a:=.mk
def bindL {α : Type} (o:Option α) {k : α -> Prop} (_:Lz k):Prop:=aH o k
def Hq (a:Prop) {b:Prop} (_:Lz b):Prop:=dJ a b
def Ff (c:Bool) {a b:Prop} (_:Lz a) (_:Lz b):Prop:=jK c a b
def Od (f:cW) (ds:List D) {Q:D->Option D->Prop} (_:Lz Q):Prop:=f ds Q
def QK (g:fc) (b:cP) (ds:List D) (ρ : En) {E:EndD} (_:Lz E):Prop:=forL g b ds ρ E
def Oe (g:fc) (t:dR) (el:bA) (ds:List D) (ρ : En) {Q:List D->En->Prop} (_:Lz Q):Prop:=jO g t el ds ρ Q
def NK (t:dR) (b:cP) (ρ : En) {E:EndD} (_:Lz E):Prop:=GD t b ρ E
theorem bindO_eq {α : Type} (o:Option α) (k : α -> Prop):aH o k=bindL o (lz k):=rfl
theorem andP_eq (a b:Prop):dJ a b=Hq a (lz b):=rfl
theorem iteP_eq (c:Bool) (a b:Prop):jK c a b=Ff c (lz a) (lz b):=rfl
theorem callF_eq (f:cW) (ds:List D) (Q:D->Option D->Prop):wz f ds Q=Od f ds (lz Q):=rfl
theorem forL_eq (g:fc) (b:cP) (ds:List D) (ρ : En) (E:EndD):forL g b ds ρ E=QK g b ds ρ (lz E):=rfl
theorem compL_eq (g:fc) (t:dR) (el:bA) (ds:List D) (ρ : En) (Q:List D->En->Prop):jO g t el ds ρ Q=Oe g t el ds ρ (lz Q):=rfl
theorem sWhile_eq (t:dR) (b:cP) (ρ : En) (E:EndD):GD t b ρ E=NK t b ρ (lz E):=rfl
theorem bindL_some {α : Type} (a : α) (k : α -> Prop) (z:Lz k):bindL (some a) z=k a:=yL a k
theorem bindL_none {α : Type} (k : α -> Prop) (z:Lz k):bindL none z=False:=yK k
theorem andL_true (b:Prop) (z:Lz b):Hq True z=b:=BX b
theorem andL_false (b:Prop) (z:Lz b):Hq False z=False:=yJ b
theorem iteL_true (a b:Prop) (z:Lz a) (y:Lz b):Ff true z y=a:=uA a b
theorem iteL_false (a b:Prop) (z:Lz a) (y:Lz b):Ff false z y=b:=rN a b
theorem gf {c:Prop} [Decidable c] {a b:Prop} {z:Lz a} {y:Lz b} (h1:c->a) (h2:¬ c->b):Ff (decide c) z y:=HD h1 h2
theorem oZ {c:Bool} {a b:Prop} {z:Lz a} {y:Lz b} (h1:c=true->a) (h2:c=false->b):Ff c z y:=KJ h1 h2
theorem bR {a b:Prop} {z:Lz b} (h:a) (k:b):Hq a z:=⟨h,k⟩
end L2
namespace L2
open PySem
section
variable (i j:Int) (x y:D) (xs ys:List D) (o o':Bool) (b:Bool)
theorem dAdd_int:cC [.int i,.int j]=some (.int (i+j)):=rfl
theorem dAdd_lst (h:xs.length+ys.length<=sizeLine) (h1:D.shs xs=true) (h2:D.shs ys=true):cC [.lst o xs,.lst o' ys]=some (.lst true (xs++ys)):=by
 show (if _ then _ else _)=_
 rw [if_pos ⟨h,h1,h2⟩]
theorem dAdd_tup (h:xs.length+ys.length<=sizeLine) (h1:D.shs xs=true) (h2:D.shs ys=true):cC [.tup xs,.tup ys]=some (.tup (xs++ys)):=by
 show (if _ then _ else _)=_
 rw [if_pos ⟨h,h1,h2⟩]
theorem dSub_int:jH [.int i,.int j]=some (.int (i - j)):=rfl
theorem dMul_int (h:lq i j=true):mF [.int i,.int j]=some (.int (i*j)):=by
 show (if _ then _ else _)=_
 rw [if_pos h]
theorem dFdiv_int (h:j≠0):pZ [.int i,.int j]=some (.int (i.fdiv j)):=by
 show (if _ then _ else _)=_
 rw [if_neg h]
theorem dMod_int (h:j≠0):jG [.int i,.int j]=some (.int (i.fmod j)):=by
 show (if _ then _ else _)=_
 rw [if_neg h]
theorem dNeg_int:oU [.int i]=some (.int (-i)):=rfl
theorem dLt_int:dLt [.int i,.int j]=some (.bl (decide (i<j))):=rfl
theorem dLe_int:dLe [.int i,.int j]=some (.bl (decide (i<=j))):=rfl
theorem dGt_int:dGt [.int i,.int j]=some (.bl (decide (j<i))):=rfl
theorem dGe_int:dGe [.int i,.int j]=some (.bl (decide (j<=i))):=rfl
theorem dEq_int:dEq [.int i,.int j]=some (.bl (i==j)):=rfl
theorem dNe_int:dNe [.int i,.int j]=some (.bl (!(i==j))):=rfl
theorem dLen_lst:jQ [.lst o xs]=some (.int xs.length):=rfl
theorem dLen_tup:jQ [.tup xs]=some (.int xs.length):=rfl
theorem dLen_scr (ns:List Int):jQ [.scr ns]=some (.int ns.length):=rfl
theorem dAbs_int:DW [.int i]=some (.int (if i<0 then -i else i)):=rfl
theorem dMin_int:wJ [.int i,.int j]=some (.int (if j<i then j else i)):=rfl
theorem dMax_int:Ce [.int i,.int j]=some (.int (if j>i then j else i)):=rfl
theorem dInt_int:DX [.int i]=some (.int i):=rfl
theorem dInt_bl:DX [.bl b]=some (.int (if b then 1 else 0)):=rfl
theorem dIsN_:yP [x,.non]=some (.bl x.isNon):=rfl
theorem dNotN_:Oh [x,.non]=some (.bl (!x.isNon)):=rfl
theorem dListOf_lst (h:D.shs xs=true):jq [.lst o xs]=some (.lst true xs):=by
 show (if _ then _ else _)=_
 rw [if_pos h]
theorem dListOf_tup (h:D.shs xs=true):jq [.tup xs]=some (.lst true xs):=by
 show (if _ then _ else _)=_
 rw [if_pos h]
theorem dTupOf_lst (h:D.shs xs=true):iZ [.lst o xs]=some (.tup xs):=by
 show (if _ then _ else _)=_
 rw [if_pos h]
theorem Fv (h:xs.length<sizeLine):gG xs [x]=some (xs++[x],.non):=by
 show (if _ then _ else _)=_
 rw [if_pos h]
theorem Kh {α : Type} (a : α) (l:List α):atI (a :: l) 0=some a:=by
 have e:ixN (a :: l).length 0=some 0:=by unfold ixN;simp
 unfold atI;rw [e];rfl
theorem Oc {α : Type} (a c : α) (l:List α):atI (a :: c :: l) 1=some c:=by
 have e:ixN (a :: c :: l).length 1=some 1:=by unfold ixN;simp;omega
 unfold atI;rw [e];rfl
theorem qK {k:Int} {d:D} (h:atI xs k=some d) (hs:d.sh=true):ixF (.lst o xs) k=some (d,none):=by
 have e:dIx [.lst o xs,.int k]=some d:=by
  show (atI xs k).bind _=_
  rw [h];simp [hs]
 unfold ixF;rw [e]
theorem aU {k:Int} {d:D} (h:atI xs k=some d) (hs:d.sh=true):ixF (.tup xs) k=some (d,none):=by
 have e:dIx [.tup xs,.int k]=some d:=by
  show (atI xs k).bind _=_
  rw [h];simp [hs]
 unfold ixF;rw [e]
theorem Al {ns:List Int} {k n:Int} (h:atI ns k=some n):ixF (.scr ns) k=some (.int n,none):=by
 have e:dIx [.scr ns,.int k]=some (.int n):=by
  show (atI ns k).map D.int=_
  rw [h];rfl
 unfold ixF;rw [e]
theorem HF {k:Int} {d:D} {n:Nat} (h:ixN xs.length k=some n) (hd:xs[n]? = some d) (hs:d.sh=false):ixF (.lst o xs) k=some (d.fz,some (.lst o (xs.set n d.fz))):=by
 have e:dIx [.lst o xs,.int k]=none:=by
  show (atI xs k).bind _=_
  unfold atI;rw [h]
  show (xs[n]?).bind _=_
  rw [hd];simp [hs]
 unfold ixF;rw [e];simp [h,hd]
theorem ixF_l0 (h:x.sh=true):ixF (.lst o (x :: xs)) 0=some (x,none):=qK _ _ (Kh x xs) h
theorem ixF_l1 (h:y.sh=true):ixF (.lst o (x :: y :: xs)) 1=some (y,none):=qK _ _ (Oc x y xs) h
theorem ixF_t0 (h:x.sh=true):ixF (.tup (x :: xs)) 0=some (x,none):=aU _ (Kh x xs) h
theorem ixF_t1 (h:y.sh=true):ixF (.tup (x :: y :: xs)) 1=some (y,none):=aU _ (Oc x y xs) h
theorem zT {k:Int} {d:D} (h:atI xs k=some d) (hs:d.sh=true):dIx [.lst o xs,.int k]=some d:=by
 show (atI xs k).bind _=_
 rw [h];simp [hs]
theorem Hy {k:Int} {d:D} (h:atI xs k=some d) (hs:d.sh=true):dIx [.tup xs,.int k]=some d:=by
 show (atI xs k).bind _=_
 rw [h];simp [hs]
theorem ixN0 (n:Nat):ixN (n+1) 0=some 0:=by unfold ixN;simp
theorem ixN1 (n:Nat):ixN (n+1+1) 1=some 1:=by unfold ixN;simp;omega
end
theorem putO_none (ρ : En) (i:Nat):putO ρ i none = ρ:=rfl
theorem putO_some (ρ : En) (i:Nat) (c:D):putO ρ i (some c) = ρ.set i (some c):=rfl
end L2
namespace L2
open PySem
def JS (c:Prop) {a b:Prop} (_:Lz a) (_:Lz b):Prop:=(c∧a)∨b
theorem ev_Drop (ρ : En) (E:EndD) (js:List Nat) (b:cP):lJ js b ρ E=b (rE ρ js) E:=rfl
theorem dropL_nil (ρ : En):rE ρ [] = ρ:=rfl
theorem dropL_cons (ρ : En) (j:Nat) (js:List Nat):rE ρ (j :: js)=(rE ρ js).set j none:=rfl
theorem ev_Keep (ρ : En) (Q:D->En->Prop) (i:Nat) (s:bA):Kc i s ρ Q=aH (slot ρ i) fun d=>s (ρ.set i (some d.fz)) fun r ρ'=>JS (Fp i ρ ρ' r) (lz (Q r (ρ'.set i (some d)))) (lz (Q r ρ')):=by
 simp only [Kc,aH,cg,JS]
end L2
namespace Z
def sg (t b:Int):Int:=if b<0 then -(Int.gcd t b:Int) else (Int.gcd t b:Int)
def low (t b:Int):Int×Int:=(t.fdiv (sg t b),b.fdiv (sg t b))
theorem uJ {t b:Int} (h:b≠0):sg t b≠0:=by
 have:0<Int.gcd t b:=Int.gcd_pos_iff.mpr (.inr h)
 unfold sg;split <;> omega
theorem Nh (t b:Int):(sg t b).natAbs=Int.gcd t b:=by
 unfold sg;split <;> omega
theorem lR (t b:Int):t=sg t b*(low t b).1:=by
 have hd:sg t b ∣ t:=by
  unfold sg;split
  ·exact Int.neg_dvd.mpr (Int.gcd_dvd_left ..)
  ·exact Int.gcd_dvd_left ..
 show t=sg t b*t.fdiv (sg t b)
 rw [Int.mul_fdiv_cancel' hd]
theorem kJ (t b:Int):b=sg t b*(low t b).2:=by
 have hd:sg t b ∣ b:=by
  unfold sg;split
  ·exact Int.neg_dvd.mpr (Int.gcd_dvd_right ..)
  ·exact Int.gcd_dvd_right ..
 show b=sg t b*b.fdiv (sg t b)
 rw [Int.mul_fdiv_cancel' hd]
theorem qL {t b:Int} (h:b≠0):0<(low t b).2:=by
 have e:=kJ t b
 have hg:0<Int.gcd t b:=Int.gcd_pos_iff.mpr (.inr h)
 by_cases hb:b<0
 ·have es:sg t b = -(Int.gcd t b:Int):=by unfold sg;rw [if_pos hb]
  rw [es] at e
  by_cases hq:0<(low t b).2
  ·exact hq
  ·exfalso
   have:0<=(Int.gcd t b:Int) * -(low t b).2:=Int.mul_nonneg (by omega) (by omega)
   rw [Int.mul_neg] at this
   rw [Int.neg_mul] at e
   omega
 ·have es:sg t b=(Int.gcd t b:Int):=by unfold sg;rw [if_neg hb]
  rw [es] at e
  by_cases hq:0<(low t b).2
  ·exact hq
  ·exfalso
   have:0<=(Int.gcd t b:Int) * -(low t b).2:=Int.mul_nonneg (by omega) (by omega)
   rw [Int.mul_neg] at this
   omega
theorem vC {t b:Int} (h:b≠0):Int.gcd (low t b).1 (low t b).2=1:=by
 have hg:0<Int.gcd t b:=Int.gcd_pos_iff.mpr (.inr h)
 have e1:=lR t b
 have e2:=kJ t b
 have e:Int.gcd t b=Int.gcd (sg t b*(low t b).1) (sg t b*(low t b).2):=by rw [← e1,← e2]
 rw [Int.gcd_mul_left,Nh] at e
 exact (Nat.mul_left_cancel hg (by rw [Nat.mul_one];exact e)).symm
theorem lX {a b c:Int} (e:a=b*c) (h:b≠0):c.natAbs<=a.natAbs:=by
 rw [e,Int.natAbs_mul]
 exact Nat.le_mul_of_pos_left _ (by omega)
theorem HW {t b:Int} (h:b≠0):(low t b).1.natAbs<=t.natAbs:=lX (lR t b) (uJ h)
theorem HX {t b:Int} (h:b≠0):(low t b).2.natAbs<=b.natAbs:=lX (kJ t b) (uJ h)
theorem sY {p q p' q':Int} (hq:0<q) (hq':0<q') (g:Int.gcd p q=1) (g':Int.gcd p' q'=1) (e:p*q'=p'*q):p=p'∧q=q':=by
 have d1:q ∣ q':=by
  have h:q ∣ p*q':=⟨p',by rw [e,Int.mul_comm]⟩
  have h2:=Int.dvd_gcd_mul_iff_dvd_mul.mpr h
  rw [Int.gcd_comm,g] at h2
  simpa using h2
 have d2:q' ∣ q:=by
  have h:q' ∣ p'*q:=⟨p,by rw [← e,Int.mul_comm]⟩
  have h2:=Int.dvd_gcd_mul_iff_dvd_mul.mpr h
  rw [Int.gcd_comm,g'] at h2
  simpa using h2
 have l1:=Int.le_of_dvd hq' d1
 have l2:=Int.le_of_dvd hq d2
 have eq:q=q':=by omega
 refine ⟨?_,eq⟩
 rw [eq] at e
 exact Int.eq_of_mul_eq_mul_right (by omega) e
theorem Lw {t b:Int} (hb:0<b) (g:Int.gcd t b=1):low t b=(t,b):=by
 have es:sg t b=1:=by unfold sg;rw [if_neg (by omega),g];rfl
 unfold low;rw [es];simp
theorem CQ {t b s d:Int} (hb:b≠0) (hd:d≠0) (e:t*d=s*b):low t b=low s d:=by
 have h1:=lR t b
 have h2:=kJ t b
 have h3:=lR s d
 have h4:=kJ s d
 have k:sg t b*sg s d≠0:=Int.mul_ne_zero (uJ hb) (uJ hd)
 have e':(low t b).1*(low s d).2=(low s d).1*(low t b).2:=by
  refine Int.eq_of_mul_eq_mul_left k ?_
  have l:sg t b*sg s d*((low t b).1*(low s d).2)=t*d:=by
   conv=>rhs;rw [h1,h4]
   simp only [Int.mul_assoc,Int.mul_left_comm,Int.mul_comm]
  have r:sg t b*sg s d*((low s d).1*(low t b).2)=s*b:=by
   conv=>rhs;rw [h3,h2]
   simp only [Int.mul_assoc,Int.mul_left_comm,Int.mul_comm]
  rw [l,r,e]
 have w:=sY (qL hb) (qL hd) (vC hb) (vC hd) e'
 exact Prod.ext w.1 w.2
theorem back {a b c d:Int} (hb:0<b) (hd:0<d) (g:Int.gcd a b=1) :
  low ((low (a*d - c*b) (b*d)).1*d+c*(low (a*d - c*b) (b*d)).2) ((low (a*d - c*b) (b*d)).2*d)=(a,b):=by
 have hbd:b*d≠0:=Int.mul_ne_zero (by omega) (by omega)
 have e1:=lR (a*d - c*b) (b*d)
 have e2:=kJ (a*d - c*b) (b*d)
 have hp:=qL (t:=a*d - c*b) hbd
 have hk:=uJ (t:=a*d - c*b) hbd
 generalize low (a*d - c*b) (b*d)=z at *
 generalize sg (a*d - c*b) (b*d)=k at *
 obtain ⟨p,q⟩:=z
 dsimp only at *
 have hqd:q*d≠0:=Int.mul_ne_zero (by omega) (by omega)
 rw [CQ hqd (show b≠0 by omega) (s:=a) ?_,Lw hb g]
 refine Int.eq_of_mul_eq_mul_left hk ?_
 have x1:k*((p*d+c*q)*b)=(k*p)*d*b+c*b*(k*q):=by
  rw [Int.add_mul,Int.mul_add]
  congr 1 <;> simp only [Int.mul_assoc,Int.mul_left_comm,Int.mul_comm]
 have x2:k*(a*(q*d))=a*d*(k*q):=by simp only [Int.mul_assoc,Int.mul_left_comm,Int.mul_comm]
 rw [x1,x2,← e1,← e2]
 have y1:(a*d - c*b)*d*b=a*d*(b*d) - c*b*(b*d):=by
  rw [Int.mul_assoc,Int.mul_comm d b,Int.sub_mul]
 rw [y1];omega
end Z
namespace Z
def Bd (n:Nat) (i:Int):Prop:=i.natAbs<2 ^ n
theorem Bd.mono {m n:Nat} {i:Int} (h:Bd m i) (hmn:m<=n):Bd n i:=Nat.lt_of_lt_of_le h (Nat.pow_le_pow_right (by decide) hmn)
theorem Bd.mul {m n:Nat} {a b:Int} (h:Bd m a) (k:Bd n b):Bd (m+n) (a*b):=by
 unfold Bd at *
 rw [Int.natAbs_mul,Nat.pow_add]
 exact Nat.mul_lt_mul'' h k
theorem Bd.sub {m:Nat} {a b:Int} (h:Bd m a) (k:Bd m b):Bd (m+1) (a - b):=by
 unfold Bd at *
 rw [Nat.pow_succ]
 omega
theorem Bd.le {m:Nat} {a b:Int} (h:Bd m a) (k:b.natAbs<=a.natAbs):Bd m b:=Nat.lt_of_le_of_lt k h
theorem HR {m:Nat} {t b:Int} (h:Bd m t) (hb:b≠0):Bd m (low t b).1:=h.le (HW hb)
theorem HS {m:Nat} {t b:Int} (h:Bd m b) (hb:b≠0):Bd m (low t b).2:=h.le (HX hb)
end Z
namespace Z
theorem HY {t b:Int} (h:b≠0):(low t b).1=(Rat.divInt t b).num∧(low t b).2=((Rat.divInt t b).den:Int):=by
 have hp:=qL (t:=t) h
 have hg:=vC (t:=t) h
 have hd:(Rat.divInt t b).den≠0:=(Rat.divInt t b).den_nz
 refine sY hp (by omega) hg ?_ ?_
 ·have:=(Rat.divInt t b).reduced
  rw [Int.gcd_eq_natAbs_gcd_natAbs];simpa using this
 ·have e:Rat.divInt (low t b).1 (low t b).2=Rat.divInt (Rat.divInt t b).num ((Rat.divInt t b).den:Int):=by
   have e1:Rat.divInt (Rat.divInt t b).num ((Rat.divInt t b).den:Int)=Rat.divInt t b:=by rw [Rat.divInt_ofNat,Rat.mkRat_self]
   rw [e1]
   refine (Rat.divInt_eq_divInt_iff (by omega) h).mpr ?_
   have h1:=lR t b
   have h2:=kJ t b
   have k:=uJ (t:=t) h
   refine Int.eq_of_mul_eq_mul_left k ?_
   rw [← Int.mul_assoc,← Int.mul_assoc,← h1]
   conv=>rhs;rw [Int.mul_comm (sg t b) t,Int.mul_assoc,← h2]
  exact (Rat.divInt_eq_divInt_iff (by omega) (by omega)).mp e
theorem mO (q:Rat):Rat.divInt q.num (q.den:Int)=q:=by rw [Rat.divInt_ofNat,Rat.mkRat_self]
theorem rB (q:Rat):(q.den:Int)≠0:=by have:=q.den_nz;omega
theorem Jk (p q:Rat):Rat.divInt (p.num*q.den - q.num*p.den) (p.den*q.den)=p - q:=by
 rw [← Rat.divInt_sub_divInt _ _ (rB p) (rB q),mO,mO]
theorem Jj (p q:Rat):Rat.divInt (p.num*q.num) (p.den*q.den)=p*q:=by
 rw [← Rat.divInt_mul_divInt,mO,mO]
theorem Ji (p q:Rat):Rat.divInt (p.num*q.den) (p.den*q.num)=p / q:=by
 rw [Rat.div_def,← Rat.divInt_mul_divInt,mO,← Rat.inv_divInt,mO]
theorem Ma {q:Rat} (h:q≠0):q.num≠0:=fun z=>h (by
 have:=mO q
 rw [z] at this
 rw [← this];simp)
def Bq (n:Nat) (q:Rat):Prop:=Bd n q.num∧Bd n (q.den:Int)
theorem Bq.mono {m n:Nat} {q:Rat} (h:Bq m q) (k:m<=n):Bq n q:=⟨h.1.mono k,h.2.mono k⟩
theorem DN {m:Nat} {t b:Int} (hb:b≠0) (h1:Bd m t) (h2:Bd m b):Bq m (Rat.divInt t b):=by
 obtain ⟨e1,e2⟩:=HY (t:=t) hb
 exact ⟨by rw [← e1];exact HR h1 hb,by rw [← e2];exact HS h2 hb⟩
theorem Ax (p q:Rat):(p.den:Int)*(q.den:Int)≠0:=Int.mul_ne_zero (rB p) (rB q)
theorem Kp {m n:Nat} {p q:Rat} (h:Bq m p) (k:Bq n q):Bq (m+n+1) (p - q):=by
 rw [← Jk]
 refine DN (Ax p q) (Bd.sub (h.1.mul k.2) ?_) ((h.2.mul k.2).mono (Nat.le_succ _))
 rw [Nat.add_comm m n];exact k.1.mul h.2
theorem Ko {m n:Nat} {p q:Rat} (h:Bq m p) (k:Bq n q):Bq (m+n) (p*q):=by
 rw [← Jj]
 exact DN (Ax p q) (h.1.mul k.1) (h.2.mul k.2)
theorem Km {m n:Nat} {p q:Rat} (h:Bq m p) (k:Bq n q) (hq:q≠0):Bq (m+n) (p / q):=by
 rw [← Ji]
 exact DN (Int.mul_ne_zero (rB p) (Ma hq)) (h.1.mul k.2) (h.2.mul k.1)
end Z
open PySem L2 in
local macro_rules
 | `(tactic| dsimp? only)=>`(tactic| dsimp? only [true_and])
 | `(tactic| dsimp? only [$ts,*])=>do
  let f (s:String):=((s.splitOn " ").map fun n=>Lean.mkIdent n.toName).toArray
  let a ← (f "ev_C ev_Var ev_ops_nil ev_ops_val ev_ops_nam ev_Do ev_Tup ev_Lst ev_B ev_And ev_Or ev_Not ev_AndV ev_OrV ev_NotV ev_IfE ev_Tru ev_Call ev_CallM ev_IxN ev_Mut ev_Chain ev_Seq ev_Next ev_Never ev_Break ev_Cont ev_If ev_Expr ev_Ret ev_RetN ev_RetV ev_Set ev_Asg ev_gN ev_gT ev_gGo_nil ev_gGo_cons ev_Par ev_Aug ev_SetIx ev_For ev_Comp ev_Keep ev_Drop ev_Yes ev_Range1 ev_Range2 ev_Seq' ev_Zip ev_Enum ev_fn nx_mk rt_mk bk_mk ct_mk sSlFrom sSlTo bindO_eq andP_eq iteP_eq callF_eq forL_eq compL_eq sWhile_eq").mapM fun n=>`(Lean.Parser.Tactic.simpLemma| ↓ $n:ident)
  let b ← (f "dropL_nil dropL_cons bindL_some bindL_none andL_true andL_false iteL_true iteL_false slot_cons0 slot_consS getAD_nam getAD_val getAll_nil getAll_cons' consO_some oneO twoO D.intO D.bo D.ownO D.isLst D.tupO D.seqO D.lstO ioOf_f ioOf_t namsSh namsSh_val namsSh_nam namsOf aft_ev shAll_nil shAll_cons cond_true cond_false clO putO_none putO_some ixF_l0 ixF_l1 ixF_t0 ixF_t1 cSt wb D.fz D.fzs D.sh D.shs D.clean D.cleans D.tru D.isNon dAdd_int dAdd_lst dAdd_tup dSub_int dMul_int dFdiv_int dMod_int dNeg_int dLt_int dLe_int dGt_int dGe_int dEq_int dNe_int dLen_lst dLen_tup dLen_scr dAbs_int dMin_int dMax_int dInt_int dInt_bl dIsN_ dNotN_ dListOf_lst dListOf_tup dTupOf_lst ixN0 ixN1 ne_eq Int.reduceEq List.map_cons List.map_nil List.replicate_succ List.replicate_zero List.replicate List.cons_append List.nil_append List.append_nil List.length_cons List.length_nil List.getElem?_cons_zero List.getElem?_cons_succ List.getElem?_nil Option.getD_some Option.getD_none List.set_cons_zero List.set_cons_succ List.set_nil List.drop_succ_cons List.drop_zero List.drop_nil Nat.reduceAdd Nat.reduceSub Nat.reduceLT Nat.reduceLeDiff Nat.reduceEqDiff Int.reduceToNat Nat.zero_add and_true true_and and_self if_true if_false reduceIte Bool.and_true Bool.true_and Bool.and_false Bool.false_and Bool.or_true Bool.true_or Bool.or_false Bool.false_or Bool.not_true Bool.not_false Bool.and_self decide_true decide_false Bool.false_eq_true reduceCtorEq List.mem_cons List.not_mem_nil or_false not_false_eq_true Option.bind_some Option.map_some Option.map_none Option.bind_none sizeLine_eq").mapM fun n=>`(Lean.Parser.Tactic.simpLemma| $n:ident)
  `(tactic| simp only [$ts,*,$(a++b),*])
namespace Z
open PySem L2
def fr (q:Rat):D:=.tup [.int q.num,.int (q.den:Int)]
theorem cb {m n:Nat} {i j:Int} (h:Bd m i) (k:Bd n j) (l:m+n<=134217728):lq i j=true:=by
 unfold lq
 have h1:bits i<=m:=intBits_le_iff.mpr h
 have h2:bits j<=n:=intBits_le_iff.mpr k
 exact decide_eq_true (by omega)
theorem Oj (q:Rat):(fr q).fz=fr q:=rfl
theorem qJ {α : Type} (g : α -> D) (hg:∀ x,(g x).fz=g x):∀ xs:List α,D.fzs (xs.map g)=xs.map g
 | []=>by simp [D.fzs]
 | x :: xs=>by rw [List.map_cons,D.fzs,hg,qJ g hg xs]
theorem lg {α : Type} (g : α -> D) (hg:∀ x,(g x).sh=true):∀ xs:List α,D.shs (xs.map g)=true
 | []=>by simp [D.shs]
 | x :: xs=>by rw [List.map_cons,D.shs,hg,lg g hg xs];rfl
theorem gY {α : Type} (g : α -> D) (hg:∀ x,(g x).clean=true):∀ xs:List α,D.cleans (xs.map g)=true
 | []=>by simp [D.cleans]
 | x :: xs=>by rw [List.map_cons,D.cleans,hg,gY g hg xs];rfl
end Z
namespace TM
def cL (f:Nat->Rat):Nat->Rat
 | 0=>0
 | n+1=>cL f n+f n
theorem dC {f g:Nat->Rat}:∀ n,(∀ i,i<n->f i=g i)->cL f n=cL g n
 | 0,_=>rfl
 | n+1,h=>by
  show cL f n+f n=cL g n+g n
  rw [dC n (fun i hi=>h i (by omega)),h n (by omega)]
theorem uM {f:Nat->Rat} (n:Nat) (h:∀ i,i<n->f i=0):cL f n=0:=by
 induction n with
 | zero=>rfl
 | succ n ih=>
  show cL f n+f n=0
  rw [ih fun i hi=>h i (by omega),h n (by omega)];grind
theorem lO (f g:Nat->Rat):∀ n,cL (fun i=>f i+g i) n=cL f n+cL g n
 | 0=>by show (0:Rat)=0+0;grind
 | n+1=>by
  show cL (fun i=>f i+g i) n+(f n+g n)=cL f n+f n+(cL g n+g n)
  rw [lO f g n];grind
theorem oG (c:Rat) (f:Nat->Rat):∀ n,cL (fun i=>c*f i) n=c*cL f n
 | 0=>by show (0:Rat)=c*0;grind
 | n+1=>by
  show cL (fun i=>c*f i) n+c*f n=c*(cL f n+f n)
  rw [oG c f n];grind
theorem BJ {f:Nat->Rat} {k:Nat}:∀ n,k<n->cL f n=f k+cL (fun i=>if i=k then 0 else f i) n
 | 0,h=>absurd h (Nat.not_lt_zero _)
 | n+1,h=>by
  show cL f n+f n=f k+(cL (fun i=>if i=k then 0 else f i) n+(if n=k then 0 else f n))
  by_cases e:n=k
  ·subst e
   have q:cL (fun i=>if i=n then 0 else f i) n=cL f n:=dC n fun i hi=>by rw [if_neg (Nat.ne_of_lt hi)]
   rw [if_pos rfl,q];grind
  ·rw [if_neg e,BJ (f:=f) (k:=k) n (by omega)];grind
theorem oH {f:Nat->Rat} {k n:Nat} (h:k<n) (z:∀ i,i<n->i≠k->f i=0):cL f n=f k:=by
 rw [BJ n h,uM n fun i hi=>by by_cases e:i=k <;> simp [e,z i hi]]
 grind
theorem uL (f:Nat->Nat->Rat) (m:Nat):∀ n,cL (fun i=>cL (fun j=>f i j) m) n=cL (fun j=>cL (fun i=>f i j) n) m
 | 0=>(uM m fun _ _=>rfl).symm
 | n+1=>by
  show cL (fun i=>cL (fun j=>f i j) m) n+cL (fun j=>f n j) m=cL (fun j=>cL (fun i=>f i j) n+f n j) m
  rw [uL f m n,lO]
abbrev Mx:=Nat->Nat->Rat
def Gives (n:Nat) (A:Mx) (s:Rat) (y:Nat->Rat):Prop:=∀ i,i<n->cL (fun j=>A i j*y j) n=s*A i n
def Dep (n:Nat) (A:Mx):Prop:=∃ w:Nat->Rat,(∃ i,i<n∧w i≠0) ∧ ∀ j,j<n->cL (fun i=>w i*A i j) n=0
def Unit (n at':Nat) (A:Mx):Prop:=∀ i j,i<n->j<at'->A i j=if i=j then 1 else 0
def mv (a k i:Nat):Nat:=if i=a then k else if a<i∧i<=k then i - 1 else i
def moved (a k:Nat) (A:Mx):Mx:=fun i=>A (mv a k i)
def clear (a:Nat) (A:Mx):Mx:=fun i j=>if i=a then A a j / A a a else A i j - A i a*(A a j / A a a)
theorem Fy {a k i n:Nat} (h:k<n) (hi:i<n):mv a k i<n:=by unfold mv;split <;> (try split) <;> omega
def vm (a k i:Nat):Nat:=if i=k then a else if a<=i∧i<k then i+1 else i
theorem Fz {a k:Nat} (h:a<=k) (i:Nat):mv a k (vm a k i)=i:=by
 unfold mv vm
 by_cases e:i=k
 ·simp [e]
 ·rw [if_neg e]
  by_cases f:a<=i∧i<k
  ·rw [if_pos f,if_neg (by omega),if_pos (by omega)];omega
  ·rw [if_neg f]
   by_cases g:i=a
   ·exfalso;omega
   ·rw [if_neg g,if_neg (by omega)]
theorem Qy {a k:Nat} (h:a<=k) (i:Nat):vm a k (mv a k i)=i:=by
 unfold mv vm
 by_cases e:i=a
 ·simp [e]
 ·rw [if_neg e]
  by_cases f:a<i∧i<=k
  ·rw [if_pos f,if_neg (by omega),if_pos (by omega)];omega
  ·rw [if_neg f]
   by_cases g:i=k
   ·exfalso;omega
   ·rw [if_neg g,if_neg (by omega)]
theorem Hf {a k i n:Nat} (h:a<=k) (hk:k<n) (hi:i<n):vm a k i<n:=by unfold vm;split <;> (try split) <;> omega
theorem xg {n a k:Nat} {A:Mx} {s:Rat} {y:Nat->Rat} (h:a<=k) (hk:k<n):Gives n (moved a k A) s y↔Gives n A s y:=by
 constructor
 ·intro g i hi
  have:=g (vm a k i) (Hf h hk hi)
  unfold moved at this
  rw [Fz h] at this
  exact this
 ·intro g i hi
  exact g (mv a k i) (Fy hk hi)
theorem wZ {n a:Nat} {A:Mx} {s:Rat} {y:Nat->Rat} (ha:a<n) (p:A a a≠0):Gives n (clear a A) s y↔Gives n A s y:=by
 have lead:cL (fun j=>clear a A a j*y j) n=cL (fun j=>A a j*y j) n / A a a:=by
  have e:∀ j,j<n->clear a A a j*y j=(A a a)⁻¹ * (A a j*y j):=fun j _=>by unfold clear;rw [if_pos rfl];grind
  rw [dC n e,oG];grind
 have other:∀ i,i≠a->cL (fun j=>clear a A i j*y j) n=cL (fun j=>A i j*y j) n - A i a*(cL (fun j=>A a j*y j) n / A a a):=fun i hi=>by
  have e:∀ j,j<n->clear a A i j*y j=A i j*y j+(-(A i a) / A a a)*(A a j*y j):=fun j _=>by unfold clear;rw [if_neg hi];grind
  rw [dC n e,lO,oG];grind
 have ea:clear a A a n=A a n / A a a:=by unfold clear;rw [if_pos rfl]
 have eo:∀ i,i≠a->clear a A i n=A i n - A i a*(A a n / A a a):=fun i hi=>by unfold clear;rw [if_neg hi]
 constructor
 ·intro g
  have ga:=g a ha
  rw [lead,ea] at ga
  have ga':cL (fun j=>A a j*y j) n=s*A a n:=by grind
  intro i hi
  by_cases e:i=a
  ·rw [e];exact ga'
  ·have gi:=g i hi
   rw [other i e,eo i e,ga'] at gi
   grind
 ·intro g i hi
  by_cases e:i=a
  ·rw [e,lead,ea,g a ha];grind
  ·rw [other i e,eo i e,g i hi,g a ha];grind
theorem Dv {a k n:Nat} (h:a<=k) (hk:k<n) (f:Nat->Rat):cL (fun i=>f (mv a k i)) n=cL f n:=by
 have e:∀ i,i<n->f (mv a k i)=cL (fun m=>if m=mv a k i then f m else 0) n:=fun i hi=>by
  rw [oH (k:=mv a k i) (Fy hk hi) fun m _ hm=>by rw [if_neg hm]];simp
 rw [dC n e,uL]
 refine dC n fun m hm=>?_
 rw [oH (k:=vm a k m) (Hf h hk hm) fun i hi hne=>?_]
 ·rw [if_pos (Fz h m).symm]
 ·rw [if_neg]
  intro z
  apply hne
  rw [z,Qy h]
theorem Ck {n a k:Nat} {A:Mx} (h:a<=k) (hk:k<n) (d:Dep n A):Dep n (moved a k A):=by
 obtain ⟨w,⟨i,hi,hw⟩,g⟩:=d
 refine ⟨fun i=>w (mv a k i),⟨vm a k i,Hf h hk hi,by show w (mv a k (vm a k i))≠0;rw [Fz h];exact hw⟩,fun j hj=>?_⟩
 show cL (fun i=>w (mv a k i)*A (mv a k i) j) n=0
 rw [Dv h hk fun i=>w i*A i j];exact g j hj
theorem Ci {n a:Nat} {A:Mx} (ha:a<n) (p:A a a≠0) (d:Dep n A):Dep n (clear a A):=by
 obtain ⟨w,⟨i,hi,hw⟩,g⟩:=d
 refine ⟨fun i=>if i=a then cL (fun m=>w m*A m a) n else w i,?_,fun j hj=>?_⟩
 ·by_cases e:∃ m,m<n∧m≠a∧w m≠0
  ·obtain ⟨m,hm,hne,hwm⟩:=e
   exact ⟨m,hm,by show (if m=a then cL (fun m=>w m*A m a) n else w m)≠0;rw [if_neg hne];exact hwm⟩
  ·have z:∀ m,m<n->m≠a->w m=0:=fun m hm hne=>by
    by_cases q:w m=0
    ·exact q
    ·exact absurd ⟨m,hm,hne,q⟩ e
   have hia:i=a:=by
    by_cases q:i=a
    ·exact q
    ·exact absurd (z i hi q) hw
   refine ⟨a,ha,?_⟩
   show (if a=a then cL (fun m=>w m*A m a) n else w a)≠0
   rw [if_pos rfl,oH (k:=a) ha fun m hm hne=>by rw [z m hm hne];grind]
   rw [hia] at hw
   grind
 ·have e:∀ m,m<n->(if m=a then cL (fun m=>w m*A m a) n else w m)*clear a A m j =
    (w m*A m j + -(A a j / A a a)*(w m*A m a))+(if m=a then cL (fun m=>w m*A m a) n*(A a j / A a a) else 0):=fun m hm=>by
   unfold clear
   by_cases q:m=a
   ·simp only [if_pos q];subst q;grind
   ·simp only [if_neg q];grind
  have one:cL (fun m=>if m=a then cL (fun m=>w m*A m a) n*(A a j / A a a) else 0) n=cL (fun m=>w m*A m a) n*(A a j / A a a):=by
   rw [oH (f:=fun m=>if m=a then cL (fun m=>w m*A m a) n*(A a j / A a a) else 0) (k:=a) ha fun m hm hne=>by rw [if_neg hne]]
   simp
  rw [dC n e,lO,lO,oG,g j hj,one]
  grind
theorem Dy {n a k:Nat} {A:Mx} (u:Unit n a A) (h:a<=k) (hk:k<n) (p:A k a≠0):Unit n (a+1) (clear a (moved a k A)):=by
 intro i j hi hj
 have pa:moved a k A a a=A k a:=by unfold moved mv;rw [if_pos rfl]
 have rowa:∀ j,j<a->moved a k A a j=0:=fun j hj=>by
  unfold moved mv;rw [if_pos rfl,u k j hk hj,if_neg (by omega)]
 unfold clear
 by_cases e:j=a
 ·subst e
  by_cases q:i=j
  ·rw [if_pos q,if_pos q,pa];grind
  ·rw [if_neg q,if_neg q,pa];grind
 ·have hj':j<a:=by omega
  by_cases q:i=a
  ·rw [if_pos q,rowa j hj',if_neg (by omega)];grind
  ·rw [if_neg q,rowa j hj']
   have:moved a k A i j=if i=j then 1 else 0:=by
    unfold moved
    rw [u _ j (Fy hk hi) hj']
    unfold mv
    rw [if_neg q]
    by_cases z:a<i∧i<=k
    ·rw [if_pos z,if_neg (by omega),if_neg (by omega)]
    ·rw [if_neg z]
   rw [this];grind
end TM
namespace Z
open PySem L2
theorem jP {α : Type} (gI f : α -> D) {g:fc} {el:bA} (S:En->Prop):∀ {xs:List α} {ρ : En} {Q:List D->En->Prop},S ρ ->
  (∀ x∈xs,∀ ρ,S ρ -> ∀ P:D->En->Prop,(∀ ρ',S ρ'->P (f x) ρ')->g (gI x) ρ fun ρ1=>el ρ1 P)->(∀ ρ',S ρ'->Q (xs.map f) ρ')->jO g jN el (xs.map gI) ρ Q
 | [],ρ,Q,h0,_,hQ=>hQ ρ h0
 | x :: xs,ρ,Q,h0,hs,hQ=>by
  show g (gI x) ρ fun ρ1=>el ρ1 fun y ρ3=>jO g jN el (xs.map gI) ρ3 fun ys ρ4=>Q (y :: ys) ρ4
  refine hs x List.mem_cons_self ρ h0 _ fun ρ' h'=>?_
  exact jP gI f S h' (fun d' hd'=>hs d' (List.mem_cons_of_mem _ hd')) fun ρ2 h2=>hQ ρ2 h2
theorem dN {g:fc} {b:cP} {E:EndD}:∀ {ds:List D} {ρ : En} (I:Nat->En->Prop) (n:Nat),I n ρ ->
  (∀ k d ρ,ds[k]? = some d->I (n+k) ρ -> ∀ P:En->Prop,(∀ ρ',I (n+k+1) ρ'->P ρ')->g d ρ fun ρ1=>b ρ1 ⟨P,E.rt,E.nx,P⟩)->(∀ ρ',I (n+ds.length) ρ'->E.nx ρ')->forL g b ds ρ E
 | [],ρ,I,n,h0,_,hE=>hE ρ h0
 | d :: ds,ρ,I,n,h0,hs,hE=>by
  show g d ρ fun ρ1=>b ρ1 ⟨fun ρ2=>forL g b ds ρ2 E,E.rt,E.nx,fun ρ2=>forL g b ds ρ2 E⟩
  refine hs 0 d ρ rfl h0 _ fun ρ' h'=>?_
  refine dN I (n+1) h' (fun k d' ρ2 e h2 P hP=>?_) fun ρ2 h2=>hE ρ2 (by rw [List.length_cons,Nat.add_comm ds.length 1,← Nat.add_assoc];exact h2)
  have e2:n+1+k=n+(k+1):=by omega
  rw [e2] at h2
  exact hs (k+1) d' ρ2 (by simpa using e) h2 P fun ρ' h3=>hP ρ' (by rw [e2];exact h3)
theorem jf {lo:Int} {n k:Nat} {d:D} (h:(mQ lo n)[k]? = some d):k<n∧d = .int (lo+k):=by
 simp only [mQ,List.getElem?_map] at h
 obtain ⟨j,e1,rfl⟩:=Option.map_eq_some_iff.mp h
 obtain ⟨h1,h2⟩:=List.getElem?_eq_some_iff.mp e1
 simp only [List.getElem_range] at h2
 subst h2
 exact ⟨by simpa using h1,rfl⟩
theorem jV (lo:Int) (n:Nat):(mQ lo n).length=n:=by simp [mQ]
theorem Ac (r:List Rat):D.fzs (r.map fr)=r.map fr:=qJ fr Oj r
def NZ (d:D) (r:List Rat):Prop:=∃ o,d = .lst o (r.map fr)
inductive IsRows:List D->List (List Rat)->Prop where
 | nil:IsRows [] []
 | cons {d:D} {ds:List D} {r:List Rat} {rs:List (List Rat)}:NZ d r->IsRows ds rs->IsRows (d :: ds) (r :: rs)
def PB (r:List Rat):D:=.lst false (r.map fr)
theorem IsRows.fz:∀ {ds:List D} {rs:List (List Rat)},IsRows ds rs->D.fzs ds=rs.map PB
 | _,_,.nil=>by simp [D.fzs]
 | _,_,.cons ⟨o,e⟩ hs=>by
  subst e
  rw [D.fzs,D.fz,Ac,IsRows.fz hs];rfl
theorem IsRows.length:∀ {ds:List D} {rs:List (List Rat)},IsRows ds rs->ds.length=rs.length
 | _,_,.nil=>rfl
 | _,_,.cons _ hs=>by rw [List.length_cons,List.length_cons,IsRows.length hs]
def ent (rs:List (List Rat)) (i j:Nat):Rat:=(rs.getD i []).getD j 0
theorem ww {α : Type} (g : α -> D) {xs:List α} {k:Nat} {x : α} (h:xs[k]? = some x):atI (xs.map g) (k:Int)=some (g x):=by
 apply ni
 rw [List.getElem?_map,h];rfl
theorem Em {rs:List (List Rat)} {i j:Nat} {r:List Rat} {q:Rat} (h1:rs[i]? = some r) (h2:r[j]? = some q):ent rs i j=q:=by
 unfold ent
 rw [List.getD_eq_getElem?_getD,List.getD_eq_getElem?_getD,h1,Option.getD_some,h2,Option.getD_some]
def uC (r l:List Rat) (c:Rat):List Rat:=(r.zip l).map fun p=>p.1 - c*p.2
theorem oR {α : Type} (gI : α -> D) (R : α -> D->Prop) {g:fc} {el:bA} (S:En->Prop):∀ {xs:List α} {ρ : En} {Q:List D->En->Prop},S ρ ->
  (∀ x∈xs,∀ ρ,S ρ -> ∀ P:D->En->Prop,(∀ d ρ',R x d->S ρ'->P d ρ')->g (gI x) ρ fun ρ1=>el ρ1 P) ->
  (∀ ds ρ',ds.length=xs.length->(∀ (i:Nat) x d,xs[i]? = some x->ds[i]? = some d->R x d)->S ρ'->Q ds ρ')->jO g jN el (xs.map gI) ρ Q
 | [],ρ,Q,h0,_,hQ=>hQ [] ρ rfl (fun i x d e=>by simp at e) h0
 | x :: xs,ρ,Q,h0,hs,hQ=>by
  show g (gI x) ρ fun ρ1=>el ρ1 fun y ρ3=>jO g jN el (xs.map gI) ρ3 fun ys ρ4=>Q (y :: ys) ρ4
  refine hs x List.mem_cons_self ρ h0 _ fun d ρ' hd h'=>?_
  refine oR gI R S h' (fun d' hd'=>hs d' (List.mem_cons_of_mem _ hd')) fun ds ρ2 hl hr h2=>hQ (d :: ds) ρ2 (by simp [hl]) (fun i y e h3 h4=>?_) h2
  cases i with
  | zero=>simp at h3 h4;subst h3;subst h4;exact hd
  | succ i=>exact hr i y e (by simpa using h3) (by simpa using h4)
def qG (ds:List D) (rs:List (List Rat)):Prop:=ds.length=rs.length ∧ ∀ (i:Nat) (r:List Rat),rs[i]? = some r -> ∃ o,ds[i]? = some (.lst o (r.map fr))
def oO (rs:List (List Rat)) (a:Nat) (l:List Rat) (i:Nat) (r:List Rat):List Rat:=if i=a then l else uC r l (r.getD a 0)
end Z
namespace Z
open PySem L2 TM
theorem qG.fz {ds:List D} {rs:List (List Rat)} (h:qG ds rs):D.fzs ds=rs.map PB:=by
 rw [D.fzs_eq]
 apply List.ext_getElem?
 intro i
 rw [List.getElem?_map,List.getElem?_map]
 by_cases hi:i<rs.length
 ·have hr:=List.getElem?_eq_getElem hi
  obtain ⟨o,e⟩:=h.2 i _ hr
  rw [e,hr]
  show some (D.fz (.lst o _))=some _
  rw [D.fz,Ac];rfl
 ·have h1:ds[i]? = none:=List.getElem?_eq_none (by have:=h.1;omega)
  have h2:rs[i]? = none:=List.getElem?_eq_none (by omega)
  rw [h1,h2];rfl
theorem qG.get {ds:List D} {rs:List (List Rat)} (h:qG ds rs) {i:Nat} {r:List Rat} (e:rs[i]? = some r):∃ o,ds[i]? = some (.lst o (r.map fr)):=h.2 i r e
def mvR {α : Type} (rs:List α) (a k:Nat) (r : α):List α:=(rs.eraseIdx k).take a++r :: (rs.eraseIdx k).drop a
theorem Ii {α : Type} {rs:List α} {a k:Nat} {r : α} (hk:k<rs.length):(mvR rs a k r).length=rs.length:=by
 unfold mvR
 rw [List.length_append,List.length_cons,List.length_take,List.length_drop,List.length_eraseIdx]
 rw [if_pos hk]
 omega
theorem Ay {α : Type} {rs:List α} {a k i:Nat} {r : α} (ha:a<=k) (hr:rs[k]? = some r):(mvR rs a k r)[i]? = rs[mv a k i]?:=by
 have hk:=(List.getElem?_eq_some_iff.mp hr).1
 have hl:((rs.eraseIdx k).take a).length=a:=by rw [List.length_take,List.length_eraseIdx,if_pos hk];omega
 unfold mvR mv
 by_cases e:i=a
 ·subst e
  rw [if_pos rfl,List.getElem?_append_right (by omega),hl,Nat.sub_self,List.getElem?_cons_zero,hr]
 ·rw [if_neg e]
  by_cases f:i<a
  ·rw [List.getElem?_append_left (by omega),List.getElem?_take_of_lt f,List.getElem?_eraseIdx_of_lt (by omega),if_neg (by omega)]
  ·rw [List.getElem?_append_right (by omega),hl]
   obtain ⟨j,hj⟩:∃ j,i - a=j+1:=⟨i - a - 1,by omega⟩
   rw [hj,List.getElem?_cons_succ,List.getElem?_drop]
   have e2:a+j=i - 1:=by omega
   rw [e2]
   by_cases g:i<=k
   ·rw [if_pos (by omega),List.getElem?_eraseIdx_of_lt (by omega)]
   ·rw [if_neg (by omega),List.getElem?_eraseIdx_of_ge (by omega)]
    congr 1
    omega
theorem nH {rs:List (List Rat)} {i j:Nat}:ent rs i j=((rs[i]?).getD []).getD j 0:=by
 unfold ent
 have:rs.getD i []=(rs[i]?).getD []:=List.getD_eq_getElem?_getD
 rw [this]
theorem Eo {rs:List (List Rat)} {a k:Nat} {r:List Rat} (ha:a<=k) (hr:rs[k]? = some r):ent (mvR rs a k r)=moved a k (ent rs):=by
 funext i j
 unfold moved
 rw [nH,nH,Ay ha hr]
def sz (m:Nat):Nat->Nat
 | 0=>m
 | k+1=>4*sz m k+1
def iM (rs:List (List Rat)) (a:Nat) (ra:List Rat) (q:Rat):List (List Rat):=(rs.zipIdx).map fun p=>oO rs a (ra.map (· / q)) p.2 p.1
theorem wC {rs:List (List Rat)} {a i:Nat} {ra r:List Rat} {q:Rat} (h:rs[i]? = some r):(iM rs a ra q)[i]? = some (oO rs a (ra.map (· / q)) i r):=by
 unfold iM
 rw [List.getElem?_map,List.getElem?_zipIdx,h];simp
theorem wD {rs:List (List Rat)} {a:Nat} {ra:List Rat} {q:Rat}:(iM rs a ra q).length=rs.length:=by simp [iM]
theorem uy {l:List Rat} {g:Rat->Rat} {j:Nat} (h:j<l.length):(l.map g).getD j 0=g (l.getD j 0):=by
 rw [List.getD_eq_getElem?_getD,List.getD_eq_getElem?_getD,List.getElem?_map,List.getElem?_eq_getElem h];rfl
theorem CJ {r l:List Rat} {c:Rat} {j:Nat} (h1:j<r.length) (h2:j<l.length):(uC r l c).getD j 0=r.getD j 0 - c*l.getD j 0:=by
 unfold uC
 have e1:=List.getElem?_eq_getElem h1
 have e2:=List.getElem?_eq_getElem h2
 have e3:(r.zip l)[j]? = some (r[j],l[j]):=List.getElem?_zip_eq_some.mpr ⟨e1,e2⟩
 rw [List.getD_eq_getElem?_getD,List.getD_eq_getElem?_getD,List.getD_eq_getElem?_getD,List.getElem?_map,e3,e1,e2]
 rfl
theorem CK {r l:List Rat} {c:Rat} (h:r.length=l.length):(uC r l c).length=r.length:=by simp [uC,h]
theorem Cr {rs:List (List Rat)} {a w:Nat} {ra:List Rat} {q:Rat} (hw:∀ r∈rs,r.length=w) (ha:rs[a]? = some ra) (hq:ra[a]? = some q) {i j:Nat} (hi:i<rs.length) (hj:j<w) :
  ent (iM rs a ra q) i j=clear a (ent rs) i j:=by
 have hr:=List.getElem?_eq_getElem hi
 have hm:=List.getElem_mem hi
 generalize rs[i]=r at hr hm
 have lr:=hw r hm
 have la:=hw ra (List.mem_of_getElem? ha)
 have eaa:ent rs a a=q:=Em ha hq
 rw [nH,wC hr,Option.getD_some]
 unfold clear oO
 have haw:a<w:=by rw [← la];exact (List.getElem?_eq_some_iff.mp hq).1
 have era:∀ j,ent rs a j=ra.getD j 0:=fun j=>by rw [nH,ha,Option.getD_some]
 have er:∀ j,ent rs i j=r.getD j 0:=fun j=>by rw [nH,hr,Option.getD_some]
 by_cases e:i=a
 ·rw [if_pos e,if_pos e,uy (by omega),eaa,era]
 ·rw [if_neg e,if_neg e,CJ (by omega) (by rw [List.length_map];omega),uy (by omega),eaa,era,er,er]
end Z
namespace Z
open PySem L2 TM
theorem qi {ds:List D} {a:Nat} {d:D} (h:a<=ds.length) (hs:ds.length<=100):jx ds [.int (a:Int),d]=some (ds.take a++d :: ds.drop a,.non):=by
 have e:rJ ds.length (a:Int)=a:=by unfold rJ;rw [if_neg (by omega)];simp;omega
 have p63:(2:Int) ^ 63=9223372036854775808:=by decide
 unfold jx
 dsimp only
 rw [if_pos (by simp only [Bool.and_eq_true,decide_eq_true_eq,sizeLine_eq,p63];omega),e]
def QJ (tb:List (List Rat)) (b:List Rat):List (List Rat):=(tb.zip b).map fun p=>p.1++[p.2]
theorem Az {α : Type} {rs:List α} {a k:Nat} {r x : α} (hr:r∈rs) (h:x∈mvR rs a k r):x∈rs:=by
 unfold mvR at h
 rcases List.mem_append.mp h with h | h
 ·exact List.mem_of_mem_eraseIdx (List.mem_of_mem_take h)
 ·rcases List.mem_cons.mp h with h | h
  ·rw [h];exact hr
  ·exact List.mem_of_mem_eraseIdx (List.mem_of_mem_drop h)
theorem pX {m w a:Nat} {rs:List (List Rat)} {ra:List Rat} {q:Rat} (hw:∀ r∈rs,r.length=w) (hb:∀ r∈rs,∀ x∈r,Bq m x) (ha:rs[a]? = some ra) (hq:ra[a]? = some q) (h0:q≠0) {r:List Rat} (h:r∈iM rs a ra q):r.length=w ∧ ∀ x∈r,Bq (4*m+1) x:=by
 unfold iM at h
 obtain ⟨⟨r',i⟩,hp,rfl⟩:=List.mem_map.mp h
 have hr:r'∈rs:=(List.mem_zipIdx' hp).2 ▸ List.getElem_mem _
 have hra:ra∈rs:=List.mem_of_getElem? ha
 have hqm:q∈ra:=List.mem_of_getElem? hq
 have hd:∀ x∈ra.map (· / q),Bq (m+m) x:=fun x hx=>by
  obtain ⟨z,hz,rfl⟩:=List.mem_map.mp hx
  exact Km (hb ra hra z hz) (hb ra hra q hqm) h0
 show (oO rs a (ra.map (· / q)) i r').length=w ∧ ∀ x∈oO rs a (ra.map (· / q)) i r',_
 unfold oO
 by_cases e:i=a
 ·rw [if_pos e]
  exact ⟨by rw [List.length_map];exact hw ra hra,fun x hx=>(hd x hx).mono (by omega)⟩
 ·rw [if_neg e]
  have lr:=hw r' hr
  have la:=hw ra hra
  refine ⟨by rw [CK (by rw [List.length_map,lr,la])];exact lr,fun x hx=>?_⟩
  unfold uC at hx
  obtain ⟨⟨u,v⟩,hp2,rfl⟩:=List.mem_map.mp hx
  have hu:=hb r' hr u (List.of_mem_zip hp2).1
  have hv:=hd v (List.of_mem_zip hp2).2
  have haw:a<r'.length:=by rw [lr,← la];exact (List.getElem?_eq_some_iff.mp hq).1
  have hc:Bq m (r'.getD a 0):=by
   rw [List.getD_eq_getElem?_getD,List.getElem?_eq_getElem haw]
   exact hb r' hr _ (List.getElem_mem haw)
  exact (Kp hu (Ko hc hv)).mono (by omega)
theorem xf {n:Nat} {A B:Mx} {s:Rat} {y:Nat->Rat} (h:∀ i j,i<n->j<n+1->A i j=B i j):Gives n A s y↔Gives n B s y:=by
 unfold TM.Gives
 constructor
 ·intro g i hi
  rw [← h i n hi (by omega),← g i hi]
  exact dC n fun j hj=>by rw [h i j hi (by omega)]
 ·intro g i hi
  rw [h i n hi (by omega),← g i hi]
  exact dC n fun j hj=>by rw [h i j hi (by omega)]
theorem Cj {n:Nat} {A B:Mx} (h:∀ i j,i<n->j<n+1->A i j=B i j) (d:Dep n A):Dep n B:=by
 obtain ⟨w,h1,h2⟩:=d
 exact ⟨w,h1,fun j hj=>by rw [← h2 j hj];exact dC n fun i hi=>by rw [h i j hi (by omega)]⟩
theorem zN {n k:Nat} {A B:Mx} (hk:k<=n) (h:∀ i j,i<n->j<n+1->A i j=B i j) (u:Unit n k A):Unit n k B:=fun i j hi hj=>by rw [← h i j hi (by omega)];exact u i j hi hj
structure Inv (n m k:Nat) (A:Mx) (rs:List (List Rat)):Prop where
 len:rs.length=n
 w:∀ r∈rs,r.length=n+1
 b:∀ r∈rs,∀ x∈r,Bq (sz m k) x
 u:Unit n k (ent rs)
 g:∀ s y,Gives n (ent rs) s y↔Gives n A s y
 d:Dep n A->Dep n (ent rs)
theorem Inv.step {n m a k:Nat} {A:Mx} {rs:List (List Rat)} {ra:List Rat} {q:Rat} (I:Inv n m a A rs) (ha:a<=k) (hk:k<n) (hr:rs[k]? = some ra) (hq:ra[a]? = some q) (h0:q≠0) :
  Inv n m (a+1) A (iM (mvR rs a k ra) a ra q):=by
 have hm:ra∈rs:=List.mem_of_getElem? hr
 have l1:(mvR rs a k ra).length=n:=by rw [Ii (by rw [I.len];exact hk)];exact I.len
 have w1:∀ r∈mvR rs a k ra,r.length=n+1:=fun r h=>I.w r (Az hm h)
 have b1:∀ r∈mvR rs a k ra,∀ x∈r,Bq (sz m a) x:=fun r h=>I.b r (Az hm h)
 have e1:(mvR rs a k ra)[a]? = some ra:=by rw [Ay ha hr];unfold mv;rw [if_pos rfl];exact hr
 have e2:=Eo ha hr
 have eq0:ent rs k a=q:=Em hr hq
 have p:(moved a k (ent rs)) a a≠0:=by
  unfold moved mv
  rw [if_pos rfl,eq0];exact h0
 have e3:∀ i j,i<n->j<n+1->clear a (moved a k (ent rs)) i j=ent (iM (mvR rs a k ra) a ra q) i j:=fun i j hi hj=>by
  rw [Cr w1 e1 hq (by rw [l1];exact hi) hj,e2]
 exact {
  len:=by rw [wD,l1]
  w:=fun r h=>(pX w1 b1 e1 hq h0 h).1
  b:=fun r h=>(pX w1 b1 e1 hq h0 h).2
  u:=zN (by omega) e3 (Dy I.u ha hk (by rw [eq0];exact h0))
  g:=fun s y=>by rw [← xf e3,wZ (by omega) p,xg ha hk];exact I.g s y
  d:=fun h=>Cj e3 (Ci (by omega) p (Ck ha hk (I.d h))) }
end Z
namespace Z
open PySem L2 TM
def Bag (d:D):Prop:=∃ a b:Int,d = .lst true [.int a,.int b]∧0<=b∧b<2147483647
theorem nj {n:Nat} {i:Int} {m:Nat} (h:i.natAbs<m) (e:m<=2 ^ n):Bd n i:=Nat.lt_of_lt_of_le h e
theorem uY {i j:Int} (h1:0<=j) (h2:j<=1000000) (h3:i.natAbs<2 ^ 64):oV [.int i,.int j]=some (.int (i ^ j.toNat)):=by
 show (if _ then _ else _)=_
 rw [if_pos (by simp only [Bool.and_eq_true,decide_eq_true_eq];exact ⟨⟨h1,h2⟩,h3⟩)]
theorem Ox:oV [.int 10,.int 18]=some (.int ((10:Int) ^ (18:Int).toNat)):=uY (by decide) (by decide) (by decide)
theorem jd {x m:Int} (h:0<m):0<=x.fmod m∧x.fmod m<m:=⟨Int.fmod_nonneg_of_pos x h,Int.fmod_lt_of_pos x h⟩
theorem Fg (a:Int) (xs:List D) (o:Bool):ixF (.lst o (.int a :: xs)) 0=some (.int a,none):=ixF_l0 _ _ _ rfl
theorem Fi (a:Int) (x:D) (xs:List D) (o:Bool):ixF (.lst o (x :: .int a :: xs)) 1=some (.int a,none):=ixF_l1 _ _ _ _ rfl
theorem qe {bag:D} {many:Nat} (hB:Bag bag) (hm:0<many) {Q:D->Option D->Prop} (h:∀ (bag':D) (r:Nat),Bag bag'->r<many->Q (.int r) (some bag')):aq [bag,.int many] Q:=by
 obtain ⟨a,b,rfl,hb1,hb2⟩:=hB
 have hm0:(many:Int)≠0:=by omega
 have hr:∀ x:Int,∃ r:Nat,x.fmod many=(r:Int)∧r<many:=fun x=>by
  obtain ⟨h1,h2⟩:=jd (x:=x) (m:=(many:Int)) (by omega)
  exact ⟨(x.fmod many).toNat,by omega,by omega⟩
 dsimp? only [aq,Fg,Fi]
 refine gf (fun hc=>?_) fun hc=>?_
 ·obtain ⟨r,e,hr⟩:=hr a
  dsimp? only [Fg,Fi,hm0,e]
  exact h _ r ⟨_,_,rfl,hb1,hb2⟩ hr
 ·have c1:lq b 48271=true:=cb (m:=31) (n:=16) (nj (m:=2147483647) (by omega) (by decide)) (nj (m:=48272) (by decide) (by decide)) (by decide)
  obtain ⟨h1,h2⟩:=jd (x:=b*48271+7919) (m:=2147483647) (by decide)
  dsimp? only [Fg,Fi,c1,Int.reduceEq]
  generalize (b*48271+7919).fmod 2147483647=b' at h1 h2
  rw [uY (by decide) (by decide) (by omega)]
  obtain ⟨h3,h4⟩:=jd (x:=b' ^ 3) (m:=2147483587) (by decide)
  dsimp? only [Fg,Fi,Int.reduceEq]
  generalize (b' ^ 3).fmod 2147483587=z at h3 h4
  have c2:lq (z.fdiv 7) 69621=true:=by
   refine cb (m:=31) (n:=17) (nj (m:=2147483647) ?_ (by decide)) (nj (m:=69622) (by decide) (by decide)) (by decide)
   rw [Int.fdiv_eq_ediv_of_nonneg z (by decide)];omega
  obtain ⟨r,e,hr⟩:=hr ((z.fdiv 7*69621).fmod 1073741789)
  dsimp? only [Fg,Fi,c2,Int.reduceEq,hm0,e]
  exact h _ r ⟨_,_,rfl,h1,h2⟩ hr
def uU:cP:=
 aD (bD 3 (sDo jG [.val (sDo oV [.val (sDo cC [.val (sDo cC [.val (sDo jG [.nam 2,.val (sC (.int 2147483629))]),.val (sDo mF [.val (sC (.int 104729)),.nam 1])]),.val (sC (.int 17))]),.val (sC (.int 5))]),.val (sC (.int 2147483647))]))
 (aD (gU (cG (.val (sDo wJ [.val (sDo jQ [.nam 0]),.val (sC (.int 60))]))) (gN 4)
 (bD 3 (sDo jG [.val (sDo cC [.val (sDo cC [.val (sDo mF [.nam 3,.val (sC (.int 48271))]),.val (sDo mF [.val (sDo jG [.val (bH 0 (.nam 4)),.val (sC (.int 2147483587))]),.val (sDo cC [.nam 4,.val (sC (.int 3))])])]),.nam 4]),.val (sC (.int 2147483629))])))
 (aD (sIf (tB' (sDo dLt [.nam 2,.val (sDo oV [.val (sC (.int 10)),.val (sC (.int 18))])]))
 (bD 2 (sC (.int 0)))
 (bF))
 (bI (fj [.val (cu 2),.val (cu 3)]))))
theorem yW {ns:List Int} {i:Nat} (hi:i<=100) (hl:ns.length<=63) {Q:D->Option D->Prop} (h:∀ bag:D,Bag bag->Q bag none):ik [.scr ns,.int i] Q:=by
 have tail:∀ x:Int,uU [some (.scr ns),some (.int i),some (.int x),none,none] ⟨fun ρ => Q .non (qu false ρ),fun d ρ => Q d (qu false ρ),fun _=>False,fun _=>False⟩:=by
  intro x
  obtain ⟨h1,h2⟩:=jd (x:=x) (m:=2147483629) (by decide)
  have c1:lq 104729 i=true:=cb (m:=17) (n:=7) (nj (m:=104730) (by decide) (by decide)) (nj (m:=101) (by omega) (by decide)) (by decide)
  dsimp? only [uU,Int.reduceEq,c1]
  rw [uY (by decide) (by decide) (by omega)]
  dsimp? only [Int.reduceEq]
  refine bR ?_ ?_
  ·split <;> omega
  obtain ⟨h3,h4⟩:=jd (x:=(x.fmod 2147483629+104729*(i:Int)+17) ^ 5) (m:=2147483647) (by decide)
  generalize ((x.fmod 2147483629+104729*(i:Int)+17) ^ 5).fmod 2147483647=y at h3 h4
  (try dsimp? only)
  refine dN (fun k ρ => ∃ (y:Int) (z:Option D),ρ = [some (.scr ns),some (.int i),some (.int x),some (.int y),z]∧0<=y∧y<2147483647) 0 ⟨y,_,rfl,h3,h4⟩ ?_ ?_
  ·rintro k d ρ hd ⟨y,z,rfl,h5,h6⟩ P hP
   obtain ⟨hk,rfl⟩:=jf hd
   have hk2:k<ns.length:=by revert hk;split <;> omega
   have c2:lq y 48271=true:=cb (m:=31) (n:=16) (nj (m:=2147483647) (by omega) (by decide)) (nj (m:=48272) (by decide) (by decide)) (by decide)
   obtain ⟨h7,h8⟩:=jd (x:=ns[k]) (m:=2147483587) (by decide)
   have c3:lq (ns[k].fmod 2147483587) ((k:Int)+3)=true:=cb (m:=31) (n:=10) (nj (m:=2147483647) (by omega) (by decide)) (nj (m:=1000) (by omega) (by decide)) (by decide)
   have ex:ixF (.scr ns) (k:Int)=some (.int ns[k],none):=Al (ni (List.getElem?_eq_getElem hk2))
   dsimp? only [Int.zero_add,Int.reduceEq,c2,ex,c3]
   obtain ⟨h9,h10⟩:=jd (x:=y*48271+ns[k].fmod 2147483587*((k:Int)+3)+(k:Int)) (m:=2147483629) (by decide)
   exact hP _ ⟨_,_,rfl,h9,by omega⟩
  ·rintro ρ ⟨y,z,rfl,h5,h6⟩
   dsimp? only [Ox]
   refine gf (fun hc=>?_) fun hc=>?_
   ·dsimp? only
    exact h _ ⟨_,_,rfl,h5,h6⟩
   ·dsimp? only
    exact h _ ⟨_,_,rfl,h5,h6⟩
 show fnS 2 3 false (aD (bD 2 (sC (.int 0))) (aD (sIf (tB' (sDo dLt [.nam 1,.val (sDo jQ [.nam 0])])) (bD 2 (sDo DW [.val (bH 0 (.nam 1))])) (bF)) uU)) _ _
 dsimp? only
 refine gf (fun hc=>?_) fun hc=>?_
 ·have ex:ixF (.scr ns) (i:Int)=some (.int (ns[i]'(by omega)),none):=Al (ni (List.getElem?_eq_getElem (by omega)))
  dsimp? only [ex]
  exact tail _
 ·exact tail _
end Z
namespace Z
open PySem L2 TM
theorem Bag.clean {d:D} (h:Bag d):d.clean=true:=by
 obtain ⟨a,b,rfl,_⟩:=h;rfl
end Z
namespace Z
open PySem L2 TM
def Ok (n:Nat) (d:D):Prop:=d.dat.canLay0=true∧d.dat.depth<=n
theorem Ok.mono {m n:Nat} {d:D} (h:Ok m d) (k:m<=n):Ok n d:=⟨h.1,Nat.le_trans h.2 k⟩
theorem Br (n:Nat):mQ 0 n=(List.range n).map fun k=>D.int ((k:Nat):Int):=by simp [mQ]
end Z
namespace L2
open PySem PySem.Spec PyProof.Rows
theorem zO {P:Nat->Value->Prop} {g:Nat->V} (hg:∀ i v,P i v->RelV (g i) v) {acc:Array Value} {n:Nat} (h:ItemsOf P acc n):Vals ((List.range n).map g) acc.toList:=by
 have:∀ (vs:List V) (us:List Value),vs.length=us.length->(∀ (i:Nat) (v:V) (u:Value),vs[i]? = some v->us[i]? = some u->RelV v u)->Vals vs us:=by
  intro vs
  induction vs with
  | nil=>intro us hl _;cases us with
   | nil=>exact .nil
   | cons _ _=>simp at hl
  | cons v vs ih=>intro us hl hr;cases us with
   | nil=>simp at hl
   | cons u us=>exact .cons (hr 0 v u rfl rfl) (ih us (by simpa using hl) fun i v' u' e1 e2=>hr (i+1) v' u' (by simpa using e1) (by simpa using e2))
 refine this _ _ (by simp [h.1]) fun i v u e1 e2=>?_
 rw [List.getElem?_map] at e1
 obtain ⟨k,e3,rfl⟩:=Option.map_eq_some_iff.mp e1
 have hk:k=i:=by
  have:=List.getElem?_eq_some_iff.mp e3
  obtain ⟨h1,h2⟩:=this
  simpa using h2.symm
 subst hk
 exact hg k u (h.2 k u (by simpa using e2))
section
variable {X:Cx}
theorem vM {a:Expr} {ta:TA} {p p2 pos pos2:Pos} (hc:X.calm=true) (hg:Gl X "list") (hm:X.mg "list" = none) (hg2:Gl X "range") (hm2:X.mg "range" = none) (ha:PA X [a] ta) (hs:starEach [a] X.env=[(false,eval a X.env)]:=by rfl)
  (hs2:starEach [.Call (.Name "range" p2) [a] [] pos2] X.env=[(false,eval (.Call (.Name "range" p2) [a] [] pos2) X.env)]:=by rfl) :
  PE X (.Call (.Name "list" p) [.Call (.Name "range" p2) [a] [] pos2] [] pos) (fun σ H Q=>ta σ H fun vs H1=>∃ j:Int,vs=[.int j] ∧ -(2 ^ 62)<=j∧j<2 ^ 62∧j.toNat<=sizeLine ∧ ∀ l,H1 l=none->Q (.ref l) (upd H1 l (.lst ((List.range j.toNat).map fun (i:Nat)=>.int (i:Int))))):=by
 intro pins s σ H Q I h
 refine Call_ (kI I hg hm boot_list (PyProof.Rows.callWith_type1 ?_ hs2 rfl))
 rw [hs2]
 refine Calls.spliced_cons ?_
 refine Call_ (kI I hg2 hm2 boot_range (PyProof.Rows.callWith_type1 (thn (ha pos2 pins s σ H _ I h) fun us s1 ⟨vs,H1,I1,r1,q1⟩=>?_) hs rfl))
 obtain ⟨j,e,b1,b2,hz,q⟩:=q1
 subst e
 cases r1 with
 | cons r rr=>
  cases rr
  obtain ⟨t,rfl⟩:=r
  refine call_range_1 ?_
  refine Calls.spliced_nil ?_
  have I2:Inv X pins σ H1 { s1 with heap:=s1.heap.push { cls:=.type "range",data:=.fields #[.int 0 s1.toks,.int j t,.int 1 (s1.toks+1)] },toks:=s1.toks+1+1 }:=I1.kept fun b o e=>Heap.get?_push_of_some _ e
  have p24:sizeLine<=2 ^ 24:=by rw [sizeLine_eq];decide
  refine call_list_range (n:=j.toNat) (I2.ok.hd hc) (IsRange.new ..) (small_one (by omega) (by omega) b1 b2) (by rw [rangeSize_one];split <;> omega) (Nat.le_trans hz p24) fun h' tk acc' c' kp e hacc=>?_
  have r':Vals ((List.range j.toNat).map fun (i:Nat)=>V.int (i:Int)) acc'.toList:=zO (fun i v ⟨t,e⟩=>⟨t,by rw [e];congr 1;omega⟩) hacc
  exact ⟨.ref _,_,I2.laid (t':=tk) kp (Nat.le_refl _) (show dI X.prog X.w _ h' _ (.lst _) from ⟨by rw [List.length_map,List.length_range];exact hz,acc'.toList,c',r',by rw [Array.toArray_toList];exact e⟩),rfl,q _ (I2.hok.fresh (Nat.le_refl _))⟩
def gZ:List D->Option D
 | [.int j]=>if (decide (-(2 ^ 62)<=j∧j<2 ^ 62∧j.toNat<=sizeLine))=true then some (.lst true ((List.range j.toNat).map fun (i:Nat)=>.int (i:Int))) else none
 | _=>none
def zz:List V->Hp->VK->Prop:=fun vs H1 Q=>∃ j:Int,vs=[.int j] ∧ -(2 ^ 62)<=j∧j<2 ^ 62∧j.toNat<=sizeLine ∧ ∀ l,H1 l=none->Q (.ref l) (upd H1 l (.lst ((List.range j.toNat).map fun (i:Nat)=>.int (i:Int))))
theorem Rps.rng {K:PySem.W.Frag} {F:Addr->Prop} {H:Hp}:∀ l:List Nat,Rps K F H (l.map fun (i:Nat)=>V.int (i:Int)) (l.map fun (i:Nat)=>D.int (i:Int)) []
 | []=>.nil
 | n :: ns=>.cons (L:=[]) (M:=[]) (.int n) (Rps.rng ns)
theorem rD {K:PySem.W.Frag}:cz K zz gZ:=by
 intro F H vs ds f Q r e q
 unfold gZ at e
 split at e
 ·split at e
  ·rename_i hs
   cases e
   obtain ⟨x,L,rfl,r1⟩:=r.one
   cases r1
   obtain ⟨h1,h2,h3⟩:=of_decide_eq_true hs
   exact ⟨_,rfl,h1,h2,h3,fun l hl=>q _ _ _ (.list hl (Rps.rng _))⟩
  ·cases e
 ·cases e
theorem vR {a:Expr} {o:Opd} {p p2 pos pos2:Pos} (hc:X.calm=true) (hg:Gl X "list") (hm:X.mg "list" = none) (hg2:Gl X "range") (hm2:X.mg "range" = none) (ha:SA X [a] [o]) (hs:starEach [a] X.env=[(false,eval a X.env)]:=by rfl)
  (hs2:starEach [.Call (.Name "range" p2) [a] [] pos2] X.env=[(false,eval (.Call (.Name "range" p2) [a] [] pos2) X.env)]:=by rfl) :
  SE X (.Call (.Name "list" p) [.Call (.Name "range" p2) [a] [] pos2] [] pos) (sDo gZ [o]):=
 (vM hc hg hm hg2 hm2 ha hs hs2).wk fun σ H Q h=>iH rD h
end
end L2
namespace L2
open PySem PySem.Spec PyProof.Rows
def tV (ns:List Int):Nat:=(firstMet (fun i=>ns.getD i 0) ns.length).length
section
variable {X:Cx}
theorem Dh {a:Expr} {ta:TA} {p p2 pos pos2:Pos} (hc:X.calm=true) (hg:Gl X "len") (hm:X.mg "len" = none) (hg2:Gl X "set") (hm2:X.mg "set" = none) (ha:PA X [a] ta) (hs:starEach [a] X.env=[(false,eval a X.env)]:=by rfl)
  (hs2:starEach [.Call (.Name "set" p2) [a] [] pos2] X.env=[(false,eval (.Call (.Name "set" p2) [a] [] pos2) X.env)]:=by rfl) :
  PE X (.Call (.Name "len" p) [.Call (.Name "set" p2) [a] [] pos2] [] pos) (fun σ H Q=>ta σ H fun vs H1=>∃ (l:Addr) (ns:List Int),vs=[.ref l]∧SqL X.K H1 l (ns.map V.int)∧ns.length+1<scanBound∧Q (.int (tV ns)) H1):=by
 intro pins s σ H Q I h
 refine Call_ (kI I hg hm boot_len (PyProof.Rows.callWith_builtin1 ?_ hs2 rfl))
 rw [hs2]
 refine Calls.spliced_cons ?_
 refine Call_ (kI I hg2 hm2 PyProof.Rows.boot_set (PyProof.Rows.callWith_type1 (thn (ha pos2 pins s σ H _ I h) fun us s1 ⟨vs,H1,I1,r1,q1⟩=>?_) hs rfl))
 obtain ⟨l,ns,e,hq,hb,q⟩:=q1
 subst e
 cases r1 with
 | cons r rr=>
  cases rr
  cases r
  obtain ⟨its,r',pl,hz⟩:=I1.list hq
  have hlen:its.length=ns.length:=by have:=r'.length;rw [List.length_map] at this;exact this.symm
  refine call_set_list (ns:=ns) (I1.ok.hd hc) pl.isList (by simpa using intsAre_of r') (by simp only [List.size_toArray];omega) fun h' tk hS kp=>?_
  refine Calls.spliced_nil ?_
  obtain ⟨o,es,ep,t,ho,hex,hd,_,_,hsz,hf,hn⟩:=hS
  have I2:Inv X pins σ H1 { s1 with heap:=h',toks:=tk }:=I1.kept fun b o e=>kp b o (Heap.lt_size e) e
  have hfit:(es.size:Int)<2 ^ 63:=by
   have h1:=firstMet_length_le (fun i=>ns.getD i 0) ns.length
   have hz':sizeLine=16777216:=sizeLine_eq
   rw [List.length_map] at hz
   simp only [List.size_toArray,hlen] at hn
   omega
  refine call_len_set ho hex hd hf hfit ⟨.int es.size,H1,I2.tok _,⟨_,rfl⟩,?_⟩
  have e2:es.size=tV ns:=by
   simp only [List.size_toArray,hlen] at hn
   exact hn
  rw [e2];exact q
def D.ints:List D->Option (List Int)
 | []=>some []
 | .int i :: ds=>(D.ints ds).map (i :: ·)
 | _=>none
theorem Rps.intsOf {K:PySem.W.Frag} {F:Addr->Prop} {H:Hp}:∀ {vs:List V} {ds:List D} {L:List Addr} {ns:List Int},Rps K F H vs ds L->D.ints ds=some ns->vs=ns.map V.int
 | _,_,_,_,.nil,e=>by cases e;rfl
 | _,_,_,_,.cons (d:=d) (ds:=ds) r rs,e=>by
  cases d with
  | int i=>
   rw [D.ints] at e
   obtain ⟨ns,e1,rfl⟩:=Option.map_eq_some_iff.mp e
   cases r
   rw [Rps.intsOf rs e1];rfl
  | _=>simp [D.ints] at e
def nA:List D->Option D
 | [.lst _ ds]=>(D.ints ds).bind fun ns=>if ns.length+1<4096 then some (.int (tV ns)) else none
 | _=>none
theorem wQ {K:PySem.W.Frag}:cz K (fun vs H1 Q=>∃ (l:Addr) (ns:List Int),vs=[.ref l]∧SqL K H1 l (ns.map V.int)∧ns.length+1<scanBound∧Q (.int (tV ns)) H1) nA:=by
 intro F H vs ds f Q r e q
 unfold nA at e
 split at e
 ·obtain ⟨ns,e1,e2⟩:=Option.bind_eq_some_iff.mp e
  split at e2
  ·rename_i hn
   cases e2
   obtain ⟨x,L,rfl,r1⟩:=r.one
   obtain ⟨a,vs,L1,rfl,ha,ra,_⟩:=r1.lst_at
   have:=ra.intsOf e1
   subst this
   exact ⟨_,_,rfl,.of ha,hn,q _ _ _ (.ofFlat rfl)⟩
  ·cases e2
 ·cases e
theorem Ds {a:Expr} {o:Opd} {p p2 pos pos2:Pos} (hc:X.calm=true) (hg:Gl X "len") (hm:X.mg "len" = none) (hg2:Gl X "set") (hm2:X.mg "set" = none) (ha:SA X [a] [o]) (hs:starEach [a] X.env=[(false,eval a X.env)]:=by rfl)
  (hs2:starEach [.Call (.Name "set" p2) [a] [] pos2] X.env=[(false,eval (.Call (.Name "set" p2) [a] [] pos2) X.env)]:=by rfl) :
  SE X (.Call (.Name "len" p) [.Call (.Name "set" p2) [a] [] pos2] [] pos) (sDo nA [o]):=
 (Dh hc hg hm hg2 hm2 ha hs hs2).wk fun σ H Q h=>iH wQ h
end
end L2
namespace Z
open PySem L2
def cj:cW:=fnS 1 0 false
 (bI (dG (sDo gC [.nam 0,.val (sC (.ty "int"))]) (yp (sDo gC [.nam 0,.val (sC (.ty "bool"))]))))
def aG:cW:=fnS 3 0 false
 (bI (dG (aF 1 cj [.nam 0]) (lH dLe dLe (.nam 1) (.nam 0) (.nam 2))))
def bM:cW:=fnS 3 0 false
 (bI (dG (sDo gC [.nam 0,.val (sC (.ty "tuple"))]) (lH dLe dLe (.nam 1) (.val (sDo jQ [.nam 0])) (.nam 2))))
def il:cW:=fnS 2 4 false
 (aD (sIf (bB (bU (.val (aF 3 bM [.nam 0,.val (sC (.int 4)),.val (sC (.int 4))]))))
 (bI (sC (.bl false)))
 (bF))
 (aD (vN (gT [gN 2,gN 3,gN 4,gN 5]) (cu 0))
 (aD (sIf (fu (bB (bU (.val (aF 3 aG [.nam 2,.val (sC (.int 0)),.val (sDo jH [.nam 1,.val (sC (.int 1))])])))) (fu (bB (bU (.val (aF 3 aG [.nam 3,.val (sC (.int 0)),.val (sDo jH [.nam 1,.val (sC (.int 1))])])))) (tB' (sDo dEq [.nam 2,.nam 3]))))
 (bI (sC (.bl false)))
 (bF))
 (bI (dG (aF 3 aG [.nam 4,.val (sC (.int 1)),.val (sC (.int 9))]) (aF 3 aG [.nam 5,.val (sC (.int 0)),.val (sC (.int 99))]))))))
def gO:cW:=fnS 2 7 false
 (aD (bD 2 (sDo gZ [.nam 0]))
 (aD (gU (jn (cu 1)) (gT [gN 3,gN 4,gN 5,gN 6])
 (aD (vN (gT [gN 7,gN 8]) (eH [.val (bH 2 (.nam 3)),.val (bH 2 (.nam 4))]))
 (bD 2 (gW (jn (cu 2)) 1 [7,8] (gN 0) (jN) (MT (tB' (sDo dEq [.nam 0,.nam 2])) (cu 1) (cu 0))))))
 (bI (sDo dEq [.val (sDo nA [.nam 2]),.val (sC (.int 1))]))))
def lL:cW:=fnS 1 2 false
 (aD (sIf (bB (bU (.val (aF 3 bM [.nam 0,.val (sC (.int 2)),.val (sC (.int 2))]))))
 (bI (sC (.bl false)))
 (bF))
 (aD (vN (gT [gN 1,gN 2]) (cu 0))
 (aD (sIf (fu (bB (bU (.val (aF 3 aG [.nam 1,.val (sC (.int 1)),.val (sC (.int 4))])))) (bB (bU (.val (aF 3 bM [.nam 2,.val (sC (.int 0)),.val (sC (.int 6))])))))
 (bI (sC (.bl false)))
 (bF))
 (bI (dG (sDo mD [.val (gW (jn (cu 2)) 1 [1] (gN 0) (jN) (aF 2 il [.nam 0,.nam 1]))]) (aF 2 gO [.nam 1,.nam 2]))))))
end Z
namespace Z
open PySem L2 TM
theorem Fe (i:Int):gC [.int i,.ty "int"]=some (.bl true):=rfl
theorem Fd (i:Int):gC [.int i,.ty "bool"]=some (.bl false):=rfl
theorem rM (ds:List D):gC [.tup ds,.ty "tuple"]=some (.bl true):=rfl
theorem xn {i:Int} {Q:D->Option D->Prop} (h:Q (.bl true) none):cj [.int i] Q:=by
 dsimp? only [cj,Fe,Fd]
 exact h
theorem nT {i lo hi:Int} {Q:D->Option D->Prop} (h:Q (.bl (decide (lo<=i)&&decide (i<=hi))) none):aG [.int i,.int lo,.int hi] Q:=by
 dsimp? only [aG]
 refine xn ?_
 dsimp? only
 refine gf (fun hc=>?_) fun hc=>?_
 ·dsimp? only
  rw [decide_eq_true hc,Bool.true_and] at h
  exact h
 ·rw [decide_eq_false hc,Bool.false_and] at h
  exact h
theorem uz {ds:List D} {lo hi:Int} {Q:D->Option D->Prop} (h:Q (.bl (decide (lo<=(ds.length:Int))&&decide ((ds.length:Int)<=hi))) none):bM [.tup ds,.int lo,.int hi] Q:=by
 dsimp? only [bM,rM]
 refine gf (fun hc=>?_) fun hc=>?_
 ·dsimp? only
  rw [decide_eq_true hc,Bool.true_and] at h
  exact h
 ·rw [decide_eq_false hc,Bool.false_and] at h
  exact h
end Z
namespace Z
open PySem L2 TM
structure Ln where
 a:Nat
 b:Nat
 s:Nat
 m:Nat
def Ln.d (l:Ln):D:=.tup [.int l.a,.int l.b,.int l.s,.int l.m]
def dO (ls:List Ln):D:=.tup (ls.map Ln.d)
def dW (n:Nat) (ls:List Ln):D:=.tup [.int n,dO ls]
structure Ln.Ok (n:Nat) (l:Ln):Prop where
 a:l.a<n
 b:l.b<n
 ne:l.a≠l.b
 s:1<=l.s∧l.s<=9
 m:l.m<=99
theorem Qc (l:Ln):l.d.sh=true:=rfl
theorem Et (l:Ln):l.d.fz=l.d:=rfl
theorem rA (l:Ln):l.d.clean=true:=rfl
theorem iU (ls:List Ln):D.shs (ls.map Ln.d)=true:=lg Ln.d Qc ls
theorem jr (ls:List Ln):D.fzs (ls.map Ln.d)=ls.map Ln.d:=qJ Ln.d Et ls
theorem yN (ls:List Ln):D.cleans (ls.map Ln.d)=true:=gY Ln.d rA ls
theorem tu (ls:List Ln):(dO ls).sh=true:=by show D.shs (ls.map Ln.d)=true;exact iU ls
theorem wX (ls:List Ln):(dO ls).fz=dO ls:=by show D.tup (D.fzs (ls.map Ln.d))=_;rw [jr];rfl
theorem wB (ls:List Ln):(dO ls).clean=true:=by show D.cleans (ls.map Ln.d)=true;exact yN ls
theorem gm (n:Nat) (ls:List Ln):(dW n ls).sh=true:=by show (true&&((dO ls).sh&&true))=true;rw [tu];rfl
theorem jJ (n:Nat) (ls:List Ln):(dW n ls).fz=dW n ls:=by show D.tup [.int n,(dO ls).fz]=_;rw [wX];rfl
theorem uq (n:Nat) (ls:List Ln):(dW n ls).clean=true:=by show (true&&((dO ls).clean&&true))=true;rw [wB];rfl
theorem iB (n:Nat) (ls:List Ln):ixF (dW n ls) 0=some (.int n,none):=ixF_t0 _ _ rfl
theorem vo (n:Nat) (ls:List Ln):ixF (dW n ls) 1=some (dO ls,none):=ixF_t1 _ _ _ (tu ls)
theorem ju {i lo hi:Int} (h1:lo<=i) (h2:i<=hi) {Q:D->Option D->Prop} (h:Q (.bl true) none):aG [.int i,.int lo,.int hi] Q:=nT (by rw [decide_eq_true h1,decide_eq_true h2];exact h)
theorem Fb {ds:List D} {lo hi:Int} (h1:lo<=(ds.length:Int)) (h2:(ds.length:Int)<=hi) {Q:D->Option D->Prop} (h:Q (.bl true) none):bM [.tup ds,.int lo,.int hi] Q:=uz (by rw [decide_eq_true h1,decide_eq_true h2];exact h)
theorem yV {n:Nat} {l:Ln} (h:l.Ok n) {Q:D->Option D->Prop} (q:Q (.bl true) none):il [l.d,.int n] Q:=by
 have h1:=h.a;have h2:=h.b;have h3:=h.ne;have h4:=h.s;have h5:=h.m
 have hne:((l.a:Int)==(l.b:Int))=false:=by rw [beq_eq_false_iff_ne];omega
 dsimp? only [il,Ln.d]
 refine Fb (by simp) (by simp) ?_
 dsimp? only
 refine ju (by omega) (by omega) ?_
 dsimp? only
 refine ju (by omega) (by omega) ?_
 dsimp? only [hne]
 refine ju (by omega) (by omega) ?_
 dsimp? only
 refine ju (by omega) (by omega) ?_
 (try dsimp? only)
 exact q
theorem yw (g:List Int):D.shs (g.map D.int)=true:=lg D.int (fun _=>rfl) g
theorem wY (g:List Int):D.fzs (g.map D.int)=g.map D.int:=qJ D.int (fun _=>rfl) g
theorem xx {o:Bool} {g:List Int} {k:Nat} (h:k<g.length):ixF (.lst o (g.map D.int)) (k:Int)=some (.int (g.getD k 0),none):=by
 refine qK _ _ (ww D.int ?_) rfl
 rw [List.getElem?_eq_getElem h,List.getD_eq_getElem?_getD,List.getElem?_eq_getElem h];rfl
theorem ints_map:∀ g:List Int,D.ints (g.map D.int)=some g
 | []=>rfl
 | x :: g=>by rw [List.map_cons,D.ints,ints_map g];rfl
theorem xG {o:Bool} {g:List Int} (h:g.length<=100):nA [.lst o (g.map D.int)]=some (.int (tV g)):=by
 show (D.ints _).bind _=_
 rw [ints_map g,Option.bind_some,if_pos (by omega)]
theorem zB (n:Nat):(List.range n).map (fun (i:Nat)=>D.int (i:Int))=((List.range n).map fun (i:Nat)=>(i:Int)).map D.int:=by rw [List.map_map];rfl
theorem vA {n:Nat} (h:n<=100):gZ [.int (n:Int)]=some (.lst true (((List.range n).map fun (i:Nat)=>(i:Int)).map D.int)):=by
 have p62:(2:Int) ^ 62=4611686018427387904:=by decide
 have e:(n:Int).toNat=n:=by omega
 unfold gZ
 dsimp only
 rw [if_pos (by rw [decide_eq_true_eq,p62,sizeLine_eq,e];omega),e,zB]
def pS (g:List Int) (l:Ln):List Int:=g.map fun x=>if x=g.getD l.b 0 then g.getD l.a 0 else x
def pG (n:Nat) (ls:List Ln):List Int:=ls.foldl pS ((List.range n).map fun (i:Nat)=>(i:Int))
theorem Gh (g:List Int) (l:Ln):(pS g l).length=g.length:=by simp [pS]
theorem rG {α β : Type} (f : β -> α -> β) (z : β) (xs:List α) (k:Nat) (x : α) (h:xs[k]? = some x):(xs.take (k+1)).foldl f z=f ((xs.take k).foldl f z) x:=by
 rw [List.take_add_one,h,List.foldl_append];rfl
theorem tO {n:Nat} {ls:List Ln} (hn:n<=4) (hl:ls.length<=100) (ho:∀ l∈ls,l.Ok n) {Q:D->Option D->Prop} (h:Q (.bl ((tV (pG n ls):Int)==1)) none):gO [.int n,dO ls] Q:=by
 dsimp? only [gO,vA (show n<=100 by omega),dO,iU,jr,List.length_map]
 refine bR (by omega) ?_
 (try dsimp? only)
 refine dN (fun k ρ => ∃ x3 x4 x5 x6 x7 x8,ρ = [some (.int n),some (.tup (ls.map Ln.d)),some (.lst true (((ls.take k).foldl pS ((List.range n).map fun (i:Nat)=>(i:Int))).map D.int)),x3,x4,x5,x6,x7,x8]∧((ls.take k).foldl pS ((List.range n).map fun (i:Nat)=>(i:Int))).length=n) 0
  ⟨_,_,_,_,_,_,by rw [List.take_zero];rfl,by simp⟩ ?_ ?_
 ·rintro k d ρ hd ⟨x3,x4,x5,x6,x7,x8,rfl,hgl⟩ P hP
  rw [Nat.zero_add] at hgl
  rw [List.getElem?_map] at hd
  obtain ⟨l,hlk,rfl⟩:=Option.map_eq_some_iff.mp hd
  have hlo:=ho l (List.mem_of_getElem? hlk)
  have ha:=hlo.a
  have hb:=hlo.b
  have hf:=rG pS ((List.range n).map fun (i:Nat)=>(i:Int)) ls k l hlk
  rw [Nat.zero_add]
  generalize (ls.take k).foldl pS ((List.range n).map fun (i:Nat)=>(i:Int))=g at hgl hf hP ⊢
  dsimp? only [Ln.d,xx (o:=true) (g:=g) (k:=l.a) (by omega),xx (o:=true) (g:=g) (k:=l.b) (by omega),yw,wY,List.length_map,hgl]
  refine bR (by omega) ?_
  dsimp? only [yw,wY]
  refine jP D.int (fun x=>D.int (if x=g.getD l.b 0 then g.getD l.a 0 else x)) (fun ρ => ∃ x,ρ = [x,some (.int (g.getD l.a 0)),some (.int (g.getD l.b 0))]) ⟨_,rfl⟩ ?_ ?_
  ·rintro x _ ρ ⟨y,rfl⟩ P hP
   dsimp? only
   refine oZ (fun hc=>?_) fun hc=>?_
   ·(try dsimp? only)
    rw [if_pos (by simpa using hc)] at hP
    exact hP _ ⟨_,rfl⟩
   ·(try dsimp? only)
    rw [if_neg (by simpa using hc)] at hP
    exact hP _ ⟨_,rfl⟩
  rintro ρ ⟨y,rfl⟩
  (try dsimp? only)
  have e1:g.map (fun x=>D.int (if x=g.getD l.b 0 then g.getD l.a 0 else x))=(pS g l).map D.int:=by unfold pS;rw [List.map_map];rfl
  rw [e1]
  rw [Nat.zero_add] at hP
  rw [hf] at hP
  exact hP _ ⟨_,_,_,_,_,_,rfl,by rw [Gh];exact hgl⟩
 rintro ρ ⟨x3,x4,x5,x6,x7,x8,rfl,hgl⟩
 have ef:0+(ls.map Ln.d).length=ls.length:=by simp
 rw [ef,List.take_length] at hgl ⊢
 dsimp? only [xG (o:=true) (g:=ls.foldl pS ((List.range n).map fun (i:Nat)=>(i:Int))) (by omega)]
 exact h
end Z
namespace Z
open PySem L2 TM
def J (n:Nat) (ls:List Ln):Bool:=(tV (pG n ls):Int)==1
end Z
namespace Z
open PySem L2 TM PyProof.Rows
def lo (a b:Int):Int:=if b<a then b else a
def hi (a b:Int):Int:=if b>a then b else a
def lS (g:List Int) (l:Ln):List Int:=g.map fun x=>if x=hi (g.getD l.a 0) (g.getD l.b 0) then lo (g.getD l.a 0) (g.getD l.b 0) else x
def lG (n:Nat) (ls:List Ln):List Int:=ls.foldl lS ((List.range n).map fun (i:Nat)=>(i:Int))
theorem rP (g:List Int) (l:Ln):(lS g l).length=g.length:=by simp [lS]
theorem Fw {g:List Int} (hg:1<=g.length):tV g=1 ↔ ∀ x,x<g.length->g.getD x 0=g.getD 0 0:=by
 unfold tV
 constructor
 ·intro h x hx
  obtain ⟨c,hc⟩:∃ c,firstMet (fun i=>g.getD i 0) g.length=[c]:=List.length_eq_one_iff.mp h
  have all:∀ x,x<g.length->g.getD x 0=c:=fun x hx=>by
   have h1:=firstMet_any (fun i=>g.getD i 0) g.length (g.getD x 0)
   rw [hc] at h1
   have h2:((List.range g.length).map fun i=>g.getD i 0).any (· == g.getD x 0)=true:=List.any_eq_true.mpr ⟨g.getD x 0,List.mem_map.mpr ⟨x,List.mem_range.mpr hx,rfl⟩,by simp⟩
   rw [h2] at h1
   simp at h1
   exact h1.symm
  rw [all x hx,all 0 (by omega)]
 ·intro h
  have:∀ k,k+1<=g.length->firstMet (fun i=>g.getD i 0) (k+1)=[g.getD 0 0]:=by
   intro k
   induction k with
   | zero=>intro _;rw [firstMet_succ,firstMet_zero];rfl
   | succ k ih=>
    intro hk
    rw [firstMet_succ,ih (by omega),h (k+1) (by omega)]
    simp [step_dedup]
  obtain ⟨k,hk⟩:∃ k,g.length=k+1:=⟨g.length - 1,by omega⟩
  rw [hk,this k (by omega)];rfl
theorem oY {g:List Int} {f:Int->Int} {x:Nat} (h:x<g.length):(g.map f).getD x 0=f (g.getD x 0):=by
 rw [List.getD_eq_getElem?_getD,List.getD_eq_getElem?_getD,List.getElem?_map,List.getElem?_eq_getElem h];rfl
structure Alike (n:Nat) (g h:List Int):Prop where
 gl:g.length=n
 hl:h.length=n
 e:∀ x y,x<n->y<n->(g.getD x 0=g.getD y 0↔h.getD x 0=h.getD y 0)
 z:h.getD 0 0=0
 p:∀ x,x<n->0<=h.getD x 0
theorem QT (x a b:Int):(if x=b then a else x)=if x=a∨x=b then a else x:=by
 by_cases h:x=b
 ·rw [if_pos h,if_pos (.inr h)]
 ·rw [if_neg h]
  by_cases k:x=a
  ·rw [if_pos (.inl k)];exact k
  ·rw [if_neg (fun z=>z.elim k h)]
theorem QV (x a b:Int):(if x=hi a b then lo a b else x)=if x=a∨x=b then lo a b else x:=by
 unfold hi lo
 by_cases c:b<a
 ·simp only [c,if_true]
  repeat' split
  all_goals omega
 ·simp only [c,if_false]
  repeat' split
  all_goals omega
theorem Lq (a b:Int):lo a b=a∨lo a b=b:=by
 unfold lo
 split
 ·exact .inr rfl
 ·exact .inl rfl
theorem Alike.step {n:Nat} {g h:List Int} {l:Ln} (A:Alike n g h) (hl:l.Ok n):Alike n (pS g l) (lS h l):=by
 have ha:=hl.a
 have hb:=hl.b
 have e1:∀ x,x<n->(pS g l).getD x 0=if g.getD x 0=g.getD l.a 0∨g.getD x 0=g.getD l.b 0 then g.getD l.a 0 else g.getD x 0:=fun x hx=>(oY (by rw [A.gl];exact hx)).trans (QT _ _ _)
 have e2:∀ x,x<n->(lS h l).getD x 0=if h.getD x 0=h.getD l.a 0∨h.getD x 0=h.getD l.b 0 then lo (h.getD l.a 0) (h.getD l.b 0) else h.getD x 0:=fun x hx=>(oY (by rw [A.hl];exact hx)).trans (QV _ _ _)
 have px:∀ x,x<n->((g.getD x 0=g.getD l.a 0∨g.getD x 0=g.getD l.b 0)↔(h.getD x 0=h.getD l.a 0∨h.getD x 0=h.getD l.b 0)):=fun x hx=>or_congr (A.e x l.a hx ha) (A.e x l.b hx hb)
 have lm:=Lq (h.getD l.a 0) (h.getD l.b 0)
 refine ⟨by rw [Gh];exact A.gl,by rw [rP];exact A.hl,fun x y hx hy=>?_,?_,fun x hx=>?_⟩
 ·rw [e1 x hx,e1 y hy,e2 x hx,e2 y hy]
  by_cases cx:g.getD x 0=g.getD l.a 0∨g.getD x 0=g.getD l.b 0
  ·rw [if_pos cx,if_pos ((px x hx).mp cx)]
   by_cases cy:g.getD y 0=g.getD l.a 0∨g.getD y 0=g.getD l.b 0
   ·rw [if_pos cy,if_pos ((px y hy).mp cy)];exact ⟨fun _=>rfl,fun _=>rfl⟩
   ·have cy':=fun z=>cy ((px y hy).mpr z)
    rw [if_neg cy,if_neg cy']
    exact ⟨fun e=>absurd (.inl e.symm) cy,fun e=>absurd (by rw [← e];exact lm) cy'⟩
  ·have cx':=fun z=>cx ((px x hx).mpr z)
   rw [if_neg cx,if_neg cx']
   by_cases cy:g.getD y 0=g.getD l.a 0∨g.getD y 0=g.getD l.b 0
   ·rw [if_pos cy,if_pos ((px y hy).mp cy)]
    exact ⟨fun e=>absurd (.inl e) cx,fun e=>absurd (by rw [e];exact lm) cx'⟩
   ·rw [if_neg cy,if_neg fun z=>cy ((px y hy).mpr z)]
    exact A.e x y hx hy
 ·rw [e2 0 (by omega),A.z]
  have pa:=A.p l.a ha
  have pb:=A.p l.b hb
  split
  ·unfold lo;split <;> omega
  ·rfl
 ·rw [e2 x hx]
  split
  ·rcases lm with z | z <;> rw [z]
   ·exact A.p l.a ha
   ·exact A.p l.b hb
  ·exact A.p x hx
theorem oN {n:Nat}:∀ (ls:List Ln) {g h:List Int},Alike n g h->(∀ l∈ls,l.Ok n)->Alike n (ls.foldl pS g) (ls.foldl lS h)
 | [],_,_,A,_=>A
 | l :: ls,_,_,A,ho=>oN ls (A.step (ho l List.mem_cons_self)) fun l' h'=>ho l' (List.mem_cons_of_mem _ h')
theorem QD {n:Nat} {ls:List Ln} (hn:1<=n) (ho:∀ l∈ls,l.Ok n):J n ls=decide (lG n ls=List.replicate n 0):=by
 have g0:∀ x,x<n->((List.range n).map fun (i:Nat)=>(i:Int)).getD x 0=x:=fun x hx=>by
  rw [List.getD_eq_getElem?_getD,List.getElem?_map,List.getElem?_range hx];rfl
 have A:Alike n (pG n ls) (lG n ls):=oN ls ⟨by simp,by simp,fun x y _ _=>Iff.rfl,by rw [g0 0 (by omega)];rfl,fun x hx=>by rw [g0 x hx];omega⟩ ho
 have h1:=Fw (g:=pG n ls) (by rw [A.gl];exact hn)
 have h2:J n ls=true↔lG n ls=List.replicate n 0:=by
  unfold J
  rw [beq_iff_eq]
  constructor
  ·intro h
   have h3:=h1.mp (by omega)
   rw [A.gl] at h3
   apply List.ext_getElem?
   intro x
   by_cases hx:x<n
   ·have h4:=(A.e x 0 hx (by omega)).mp (h3 x hx)
    rw [A.z,List.getD_eq_getElem?_getD] at h4
    have q:=List.getElem?_eq_getElem (l:=lG n ls) (i:=x) (by rw [A.hl];exact hx)
    rw [q] at h4 ⊢
    rw [List.getElem?_replicate,if_pos hx]
    exact congrArg some h4
   ·rw [List.getElem?_eq_none (by rw [A.hl];omega),List.getElem?_eq_none (by rw [List.length_replicate];omega)]
  ·intro h
   have:tV (pG n ls)=1:=h1.mpr fun x hx=>by
    rw [A.gl] at hx
    refine (A.e x 0 hx (by omega)).mpr ?_
    rw [A.z,h,List.getD_eq_getElem?_getD,List.getElem?_replicate,if_pos hx];rfl
   omega
 rcases hJ:J n ls with _ | _
 ·exact (decide_eq_false fun z=>by rw [h2.mpr z] at hJ;cases hJ).symm
 ·exact (decide_eq_true (h2.mp hJ)).symm
end Z
namespace Z
open PySem L2 TM PyProof.Rows
theorem DK {α : Type} (g : α -> Bool):∀ xs:List α,D.bools (xs.map fun x=>D.bl (g x))=some (xs.map g)
 | []=>rfl
 | x :: xs=>by rw [List.map_cons,D.bools,DK g xs];rfl
theorem lu {α : Type} (o:Bool) (g : α -> Bool) (xs:List α):mD [.lst o (xs.map fun x=>D.bl (g x))]=some (.bl (xs.all g)):=by
 show (D.bools _).map _=_
 rw [DK g xs]
 show some (D.bl ((xs.map g).all id))=_
 rw [List.all_map];rfl
structure Good (n:Nat) (ls:List Ln):Prop where
 n1:1<=n
 n4:n<=4
 l:ls.length<=6
 o:∀ l∈ls,l.Ok n
 j:J n ls=true
def Cn (n:Nat) (ls:List Ln):Prop:=∀ c:Nat->Int,(∀ l∈ls,c l.a=c l.b) -> ∀ x,x<n->c x=c 0
structure Fin (n:Nat) (c:Nat->Int) (h:List Int):Prop where
 hl:h.length=n
 e:∀ x y,x<n->y<n->h.getD x 0=h.getD y 0->c x=c y
theorem ph {n:Nat} {h:List Int} {l:Ln} (hl:h.length=n) {x:Nat} (hx:x<n):(lS h l).getD x 0=if h.getD x 0=hi (h.getD l.a 0) (h.getD l.b 0) then lo (h.getD l.a 0) (h.getD l.b 0) else h.getD x 0:=oY (by rw [hl];exact hx)
theorem Fin.step {n:Nat} {c:Nat->Int} {h:List Int} {l:Ln} (A:Fin n c h) (ho:l.Ok n) (hc:c l.a=c l.b):Fin n c (lS h l):=by
 have ha:=ho.a
 have hb:=ho.b
 refine ⟨by rw [rP];exact A.hl,fun x y hx hy=>?_⟩
 rw [ph A.hl hx,ph A.hl hy]
 have h1:=A.e x y hx hy
 have h2:=A.e x l.a hx ha
 have h3:=A.e x l.b hx hb
 have h4:=A.e y l.a hy ha
 have h5:=A.e y l.b hy hb
 unfold hi lo
 generalize c x=cx at *
 generalize c y=cy at *
 generalize c l.a=ca at *
 generalize c l.b=cb at *
 generalize h.getD x 0=hx' at *
 generalize h.getD y 0=hy' at *
 generalize h.getD l.a 0=ha' at *
 generalize h.getD l.b 0=hb' at *
 repeat' split
 all_goals omega
theorem Aa {n:Nat} {c:Nat->Int}:∀ (ls:List Ln) {h:List Int},Fin n c h->(∀ l∈ls,l.Ok n)->(∀ l∈ls,c l.a=c l.b)->Fin n c (ls.foldl lS h)
 | [],_,A,_,_=>A
 | l :: ls,_,A,ho,hc=>Aa ls (A.step (ho l List.mem_cons_self) (hc l List.mem_cons_self)) (fun l' h'=>ho l' (List.mem_cons_of_mem _ h')) fun l' h'=>hc l' (List.mem_cons_of_mem _ h')
theorem yr {n:Nat}:∀ (ls:List Ln) {h:List Int} {x y:Nat},h.length=n->x<n->y<n->h.getD x 0=h.getD y 0->(ls.foldl lS h).getD x 0=(ls.foldl lS h).getD y 0
 | [],_,_,_,_,_,_,e=>e
 | l :: ls,h,x,y,hl,hx,hy,e=>yr ls (h:=lS h l) (by rw [rP];exact hl) hx hy (by rw [ph hl hx,ph hl hy,e])
theorem CN {n:Nat} {h:List Int} {l:Ln} (hl:h.length=n) (ho:l.Ok n):(lS h l).getD l.a 0=(lS h l).getD l.b 0:=by
 rw [ph hl ho.a,ph hl ho.b]
 unfold hi lo
 repeat' split
 all_goals omega
theorem rT {n:Nat}:∀ (ls:List Ln) {h:List Int},h.length=n->(∀ l∈ls,l.Ok n) -> ∀ l∈ls,(ls.foldl lS h).getD l.a 0=(ls.foldl lS h).getD l.b 0
 | l :: ls,h,hl,ho,l',hm=>by
  rcases List.mem_cons.mp hm with rfl | hm
  ·have o:=ho l' List.mem_cons_self
   exact yr ls (by rw [rP];exact hl) o.a o.b (CN hl o)
  ·exact rT ls (h:=lS h l) (by rw [rP];exact hl) (fun l' h'=>ho l' (List.mem_cons_of_mem _ h')) l' hm
theorem JH {n:Nat} {ls:List Ln} (hn:1<=n) (ho:∀ l∈ls,l.Ok n):J n ls=true↔Cn n ls:=by
 have g0:∀ x,x<n->((List.range n).map fun (i:Nat)=>(i:Int)).getD x 0=x:=fun x hx=>by
  rw [List.getD_eq_getElem?_getD,List.getElem?_map,List.getElem?_range hx];rfl
 have A:Alike n (pG n ls) (lG n ls):=oN ls ⟨by simp,by simp,fun x y _ _=>Iff.rfl,by rw [g0 0 (by omega)];rfl,fun x hx=>by rw [g0 x hx];omega⟩ ho
 rw [QD hn ho,decide_eq_true_eq]
 constructor
 ·intro h c hc x hx
  have F:Fin n c (lG n ls):=Aa ls ⟨by simp,fun x y hx hy e=>by rw [g0 x hx,g0 y hy] at e;rw [show x=y by omega]⟩ ho hc
  refine F.e x 0 hx (by omega) ?_
  rw [h,List.getD_eq_getElem?_getD,List.getD_eq_getElem?_getD,List.getElem?_replicate,List.getElem?_replicate,if_pos hx,if_pos (by omega)]
 ·intro h
  have h1:=h (fun x=>(lG n ls).getD x 0) (rT ls (by simp) ho)
  apply List.ext_getElem?
  intro x
  by_cases hx:x<n
  ·have h4:=h1 x hx
   rw [A.z,List.getD_eq_getElem?_getD] at h4
   have q:=List.getElem?_eq_getElem (l:=lG n ls) (i:=x) (by rw [A.hl];exact hx)
   rw [q] at h4 ⊢
   rw [List.getElem?_replicate,if_pos hx]
   exact congrArg some h4
  ·rw [List.getElem?_eq_none (by rw [A.hl];omega),List.getElem?_eq_none (by rw [List.length_replicate];omega)]
theorem Cn.more {n:Nat} {ls ms:List Ln} (h:Cn n ls) (hm:∀ l∈ls,l∈ms):Cn n ms:=fun c hc=>h c fun l hl=>hc l (hm l hl)
end Z
namespace Z
open PySem L2 TM PyProof.Rows
theorem JB {n:Nat} {ls:List Ln} (h:∀ p,1<=p->p<n -> ∃ l∈ls,∃ q,q<p∧(l.a=p∧l.b=q∨l.a=q∧l.b=p)):Cn n ls:=fun c hc=>by
 have:∀ x,∀ y,y<=x->y<n->c y=c 0:=by
  intro x
  induction x with
  | zero=>intro y hy _;rw [show y=0 by omega]
  | succ x ih=>
   intro y hy hyn
   by_cases e:y=0
   ·rw [e]
   ·obtain ⟨l,hl,q,hq,hpq⟩:=h y (by omega) hyn
    have h1:=hc l hl
    have h2:=ih q (by omega) (by omega)
    rcases hpq with ⟨e1,e2⟩ | ⟨e1,e2⟩
    ·rw [e1,e2] at h1;rw [h1,h2]
    ·rw [e1,e2] at h1;rw [← h1,h2]
 exact fun x hx=>this x x (Nat.le_refl _) hx
end Z
namespace L2
open PySem PySem.Spec PyProof.Rows
section
variable {K:PySem.W.Frag} {F:Addr->Prop} {H H':Hp}
end
end L2
namespace L2
open PySem PySem.Spec PyProof.Rows
section
variable {X:Cx} {kp:Nat->Bool}
theorem pvn {x:Str} (i:Nat) {pos:Pos} (hN:X.N[i]? = some x:=by rfl) (hv:Vis X.env.scope x:=by first | exact Or.inl rfl | exact Or.inr (Or.inl rfl) | exact Or.inr (Or.inr rfl)) (hd:(x==("__debug__" : Str))=false:=by decide)
  (hcd:(x==("__classdict__" : Str))=false:=by decide):PE X (.Name x pos) (GZ i):=pI hN hv hd hcd
end
end L2
namespace L2
open PySem PySem.Spec PyProof.Rows
end L2
namespace L2
open PySem PySem.Spec PyProof.Rows
def SIt (t:Bool) (h:Heap) (i l:Addr) (k:Nat):Prop:=cond t (h.IsTupleIter i l k) (h.IsListIter i l k)
def SSq (t:Bool) (h:Heap) (l:Addr) (xs:Array Value):Prop:=cond t (h.IsTuple l xs) (h.IsList l xs)
theorem SIt.ext {t:Bool} {h h':Heap} {a b l:Addr} {k:Nat} (x:SIt t h a l k) (y:Heap.ExtBut b h h') (n:a≠b):SIt t h' a l k:=by
 cases t with
 | true=>exact Heap.IsTupleIter.extBut x y n
 | false=>exact Heap.IsListIter.extBut x y n
theorem SSq.ext {t:Bool} {h h':Heap} {a b:Addr} {xs:Array Value} (x:SSq t h a xs) (y:Heap.ExtBut b h h') (n:a≠b):SSq t h' a xs:=by
 cases t with
 | true=>exact Heap.IsTuple.extBut x y n
 | false=>exact Heap.IsList.extBut x y n
theorem SIt.kept {t:Bool} {h h':Heap} {a l:Addr} {k:Nat} (x:SIt t h a l k) (y:∀ o,h.get? a=some o->h'.get? a=some o):SIt t h' a l k:=by
 cases t with
 | true=>exact Heap.IsTupleIter.at x y
 | false=>exact Heap.IsListIter.at x y
theorem SIt.obj {t:Bool} {h:Heap} {a l:Addr} {k:Nat} (x:SIt t h a l k):∃ o,h.get? a=some o∧o.cls = .type (cond t "tuple_iterator" "list_iterator")∧o.data = .fields #[.ref l,.int k 0]:=by
 cases t with
 | true=>exact x
 | false=>exact x
theorem SSq.obj {t:Bool} {h:Heap} {a:Addr} {xs:Array Value} (x:SSq t h a xs):∃ o,h.get? a=some o∧o.cls = .type (cond t "tuple" "list"):=by
 cases t with
 | true=>exact let ⟨o,e,c,_⟩:=x;⟨o,e,c⟩
 | false=>exact let ⟨o,e,c,_⟩:=x;⟨o,e,c⟩
section
variable {prog:Program} {w:World} {A:Around} {E:Value->Shared->Prop} {s:Shared}
end
end L2
namespace L2
open PySem PySem.Spec PyProof.Rows
section
variable {prog:Program} {w:World} {A:Around} {E:Value->Shared->Prop} {s:Shared} {c U W a1 a2 l1 l2:Addr} {k1 k2:Nat} {xs ys:Array Value} {u v p1 p2:Value} {t1 t2:Bool}
end
end L2
namespace L2
open PySem PySem.Spec PyProof.Rows
def Sq (t:Bool) (K:PySem.W.Frag) (H:Hp) (a:Addr) (xs:List V):Prop:=cond t (SqT K H a xs) (SqL K H a xs)
theorem Inv.sq {X:Cx} {pins:List (Addr×Obj)} {σ : St} {H:Hp} {s:Shared} {t:Bool} {a:Addr} {xs:List V} (I:Inv X pins σ H s) (h:Sq t X.K H a xs):∃ its:List Value,Vals xs its∧SSq t s.heap a its.toArray:=by
 cases t with
 | true=>obtain ⟨its,r,p,_⟩:=I.tuple h;exact ⟨its,r,p⟩
 | false=>obtain ⟨its,r,p,_⟩:=I.list h;exact ⟨its,r,p.isList⟩
end L2
namespace L2
open PySem PySem.Spec PyProof.Rows
def D.lt:D->Option (List D)
 | .lst _ xs=>some xs
 | .tup xs=>some xs
 | _=>none
end L2
namespace L2
open PySem PySem.Spec PyProof.Rows
end L2
namespace HT
open PySem PySem.Spec PyProof.Rows L2
section
variable {prog:Program} {w:World} {A:Around} {E:Value->Shared->Prop} {s:Shared}
theorem nM {t sl:Addr} {items:Array Value} {vl vu:Value} {lo hi:Option Int} {Q:Value->Shared->Prop} (ht:IsTup s.heap t items) (hs:s.heap.IsSliceOf sl vl vu .none) (pl:IsPart vl lo) (pu:IsPart vu hi)
  (hw:sIx items.size 0 lo=0∧sIx items.size items.size hi=items.size) (h:Q (.ref t) s):wpAny (model prog w) A (getItem (.ref t) (.ref sl)) Q E s:=by
 obtain ⟨os,hos,hcs,hds⟩:=id hs
 have hTs:s.TypeIs (.ref sl) "slice":=⟨os,hos,hcs⟩
 unfold getItem
 try with_reducible refine wpAny_holding ?_
 first | refine wpAny_bind (wpAny_pure ?_) | skip
 refine wpAny_bind (wpAny_sequenceKey ht.typeIs (by decide) ?_)
 refine wpAny_bind (wpAny_callSpecial?_slot (name:=Str.ofString "__getitem__") ht.typeIs PyProof.Rows.slot_tuple_getitem
  (wpAny_call_entry PyProof.Rows.slot_tuple_getitem ht.typeIs entry_tuple_getitem ?_ (args_tuple_getitem _ _)))
 show wpAny _ _ (Builtin.Tuple.tupleItemsOf (.ref t) >>= _) _ _ s
 refine wpAny_bind (tupleItemsOf_ ht ?_)
 refine wpAny_bind (wpAny_typeOf hTs ?_)
 rw [if_pos (by decide)]
 refine wpAny_bind (kh hs pl pu ?_)
 have hyes:(((sIx items.size 0 lo:Nat):Int)==0&&(1:Int)==1&&(sIx items.size items.size hi - sIx items.size 0 lo)==items.size)=true:=by
  rw [hw.1,hw.2];simp
 show wpAny _ _ (if (((sIx items.size 0 lo:Nat):Int)==0&&(1:Int)==1&&(sIx items.size items.size hi - sIx items.size 0 lo)==items.size)=true then _ else _) _ _ s
 rw [if_pos hyes]
 have hty:wpAny (model prog w) A.in1 (Builtin.Tuple.tupleIsExact (.ref t)) (fun b s'=>b=true∧s'=s) E s:=by
  unfold Builtin.Tuple.tupleIsExact
  exact wpAny_bind (wpAny_typeOf ht.typeIs (wpAny_pure ⟨rfl,rfl⟩))
 refine wpAny_bind (thn hty fun b s' ⟨e1,e2⟩=>?_)
 subst e1;subst e2
 rw [if_pos rfl]
 exact wpAny_bind (wpAny_rule (wpAny_pure ⟨_,rfl,wpAny_pure h⟩))
end
end HT
namespace L2
open PySem PySem.Spec PyProof.Rows
def Py (K:PySem.W.Frag):V->Option Int->Option Int->Hp->VK->Prop:=fun x lo hi H Q=>∃ a xs,x = .ref a∧SqT K H a xs∧(HT.sIx xs.length 0 lo=0∧HT.sIx xs.length xs.length hi=xs.length)∧Q (.ref a) H
theorem GQ {X:Cx}:SlR X (Py X.K):=by
 intro pins s σ H x v vl vu lo hi sl Q I rx hs pl pu h
 obtain ⟨a,xs,rfl,hx,hw,q⟩:=h
 cases rx
 obtain ⟨its,r,ht,hz⟩:=I.tuple hx
 have hlen:its.toArray.size=xs.length:=by rw [List.size_toArray];exact r.length.symm
 refine ⟨"tuple",_,PyProof.Rows.slot_tuple_getitem.lookup,ht.typeIs,?_⟩
 exact HT.nM ht hs pl pu (by rw [hlen];exact hw) ⟨.ref a,H,I,rfl,q⟩
def Jh (K:PySem.W.Frag):V->Option Int->Option Int->Hp->VK->Prop:=fun x lo hi H Q=>zA K x lo hi H Q∨Py K x lo hi H Q
theorem sl3 {X:Cx}:SlR X (Jh X.K):=Ni.or GQ
def Cg:D->Option Int->Option Int->Option D
 | .lst _ ds,lo,hi=>if D.shs ds=true then some (.lst true (cutD ds lo hi)) else none
 | .tup ds,lo,hi=>if D.shs ds=true then some (.tup (cutD ds lo hi)) else none
 | _,_,_=>none
theorem wV {K:PySem.W.Frag} {F:Addr->Prop} {H:Hp} {x:V} {d f:D} {L:List Addr} {lo hi:Option Int} {Q:VK} (r:Rp K F H x d L) (e:Cg d lo hi=some f) (q:∀ v H' Lf,Out K F H f v H' Lf->Q v H'):Jh K x lo hi H Q:=by
 cases d with
 | lst o ds=>exact .inl (zX r (show dSl (.lst o ds) lo hi=some f from e) q)
 | tup ds=>
  unfold Cg at e
  dsimp only at e
  split at e
  ·rename_i hs
   by_cases hc:HT.sIx ds.length 0 lo=0∧HT.sIx ds.length ds.length hi=ds.length
   ·cases e
    obtain ⟨a,vs,rfl,ha,ra⟩:=r.tup_in
    have hL:=ra.sh_nil hs
    subst hL
    refine .inr ⟨a,vs,rfl,.of ha,by rw [ra.length];exact hc,?_⟩
    have ec:cutD ds lo hi=ds:=by
     unfold cutD
     rw [hc.1,hc.2,List.drop_zero,Nat.sub_zero,List.take_length]
    rw [ec] at q
    exact q _ _ _ (.same (.tup ha ra))
   ·refine .inl (zX r ?_ q)
    show (if (D.shs ds && !decide (HT.sIx ds.length 0 lo=0∧HT.sIx ds.length ds.length hi=ds.length))=true then some (D.tup (cutD ds lo hi)) else none)=some f
    rw [if_pos (by rw [hs,decide_eq_false hc];rfl)]
    exact e
  ·cases e
 | _=>cases e
def uH (o lo:Opd):bA:=sDo (fun ds=>match ds with | [d,.int l]=>Cg d (some l) none | _=>none) [o,lo]
def lK (o hi:Opd):bA:=sDo (fun ds=>match ds with | [d,.int h]=>Cg d none (some h) | _=>none) [o,hi]
section
variable {X:Cx} {e idx:Expr} {o oi:Opd} {pos p2:Pos}
theorem Bu (he:SO X e o) (hi:SO X idx oi):SE X (.Subscript e (.Slice (some idx) none none p2) pos) (uH o oi):=
 (yg sl3 he (Bg hi) Bf).wk fun σ H Q h=>by
  have t:=iH (K:=X.K) (r:=fun vs H Q=>∃ x l,vs=[x,.int l]∧Jh X.K x (some l) none H Q) (fun F H vs ds f Q r e q=>by
   split at e
   ·obtain ⟨x,y,L,M,rfl,r1,r2⟩:=r.two
    cases r2.isInt
    exact ⟨x,_,rfl,wV r1 e q⟩
   ·cases e) h
  refine iC (fun x H1 t1=>?_) (dm t)
  refine iC (fun y H2 t2=>?_) (dm t1)
  obtain ⟨F,ρ,Ls,R,Qd,w,q,k⟩:=t2
  obtain ⟨x',l,e,q⟩:=k [] H2 [] ρ F Ls [] .nil w Step.refl q
  cases e
  exact ⟨l,rfl,q⟩
theorem qQ (he:SO X e o) (hi:SO X idx oi):SE X (.Subscript e (.Slice none (some idx) none p2) pos) (lK o oi):=
 (yg sl3 he Bf (Bg hi)).wk fun σ H Q h=>by
  have t:=iH (K:=X.K) (r:=fun vs H Q=>∃ x l,vs=[x,.int l]∧Jh X.K x none (some l) H Q) (fun F H vs ds f Q r e q=>by
   split at e
   ·obtain ⟨x,y,L,M,rfl,r1,r2⟩:=r.two
    cases r2.isInt
    exact ⟨x,_,rfl,wV r1 e q⟩
   ·cases e) h
  refine iC (fun x H1 t1=>?_) (dm t)
  refine iC (fun y H2 t2=>?_) (dm t1)
  obtain ⟨F,ρ,Ls,R,Qd,w,q,k⟩:=t2
  obtain ⟨x',l,e,q⟩:=k [] H2 [] ρ F Ls [] .nil w Step.refl q
  cases e
  exact ⟨l,rfl,q⟩
end
end L2
namespace L2
open PySem PySem.Spec PyProof.Rows
def vZ:List AD->Option (List D)
 | []=>some []
 | .val d :: as=>match vZ as with
  | some ds=>some (d :: ds)
  | none=>none
 | .nam _ :: _=>none
section
variable {K:PySem.W.Frag} {F:Addr->Prop} {H:Hp} {σ : St}
theorem RpA.vals:∀ {vs:List V} {as:List AD} {La:List Addr} {ds:List D},RpA K F H σ vs as La->vZ as=some ds->Rps K F H vs ds La
 | _,_,_,_,.nil,e=>by cases e;exact .nil
 | _,_,_,_,.val (d:=d) (as:=as) r rs,e=>by
  simp only [vZ] at e
  cases h:vZ as with
  | none=>rw [h] at e;cases e
  | some ds=>rw [h] at e;cases e;exact .cons r (RpA.vals rs h)
 | _,_,_,_,.nam _ _,e=>by cases e
end
end L2
namespace L2
open PySem PySem.Spec PyProof.Rows
def D.strs:List D->Option (List Str)
 | []=>some []
 | .str x :: ds=>(D.strs ds).map (x :: ·)
 | _ :: _=>none
theorem Rps.strs {K:PySem.W.Frag} {F:Addr->Prop} {H:Hp}:∀ {vs:List V} {ds:List D} {L:List Addr} {xs:List Str},Rps K F H vs ds L->D.strs ds=some xs->vs=xs.map V.str
 | _,_,_,_,.nil,e=>by cases e;rfl
 | _,_,_,_,.cons (d:=d) (ds:=ds) r rs,e=>by
  cases d with
  | str x=>
   obtain ⟨ys,e1,rfl⟩:=Option.map_eq_some_iff.mp e
   rw [r.isStr,Rps.strs rs e1];rfl
  | _=>cases e
theorem GP {X:Cx} {kp:Nat->Bool} {sts:List Stmt}:SL X kp sts zE:=fun pins s σ H D I h=>by
 obtain ⟨F,ρ,Ls,R,E,w,q,p⟩:=h
 exact q.elim
end L2
namespace L2
open PySem PySem.Spec PyProof.Rows
def D.intL:List D->Option (List Int)
 | []=>some []
 | .int i :: ds=>(D.intL ds).map (i :: ·)
 | _ :: _=>none
theorem Rps.intL {K:PySem.W.Frag} {F:Addr->Prop} {H:Hp}:∀ {vs:List V} {ds:List D} {L:List Addr} {xs:List Int},Rps K F H vs ds L->D.intL ds=some xs->vs=xs.map V.int
 | _,_,_,_,.nil,e=>by cases e;rfl
 | _,_,_,_,.cons (d:=d) (ds:=ds) r rs,e=>by
  cases d with
  | int x=>
   obtain ⟨ys,e1,rfl⟩:=Option.map_eq_some_iff.mp e
   rw [r.isInt,Rps.intL rs e1];rfl
  | _=>cases e
section
variable {X:Cx} {kp:Nat->Bool}
end
end L2
namespace L2
open PySem PySem.Spec PyProof.Rows
section
variable {prog:Program} {w:World} {A:Around} {R:Result->Shared->Prop} {s:Shared}
abbrev two (elt tg iter:Expr) (ifs:List Expr) (tg1 iter1:Expr) (ifs1:List Expr) (scope:Scope) (pos:Pos):Expr:=.ListComp elt [⟨tg,iter,ifs,0⟩,⟨tg1,iter1,ifs1,0⟩] scope pos
end
section
variable {X:Cx} {pins:List (Addr×Obj)} {σ : St} {H₂ : Hp} {s₂ : Shared} {scope:Scope} {own:List Str} {fr:List Nat} {cl:List (Str×Addr)} {fp:List Addr}
 {tg elt iter tg1 iter1:Expr} {ifs ifs1:List Expr} {pos:Pos} {J:It} {it:Addr} {tn:Nat->Heap->Prop} {g g1:TG} {tt tt1:TT} {te:TE} {wi1:TI} {RR:Value->Addr->Result->Shared->Prop} {E:Value->Shared->Prop} {Fin:List V->Hp->Prop}
end
end L2
namespace L2
open PySem PySem.Spec PyProof.Rows
section
variable {X:Cx} {pins:List (Addr×Obj)} {σ : St} {H₂ : Hp} {s₂ : Shared} {scope:Scope} {own:List Str} {fr:List Nat} {cl:List (Str×Addr)} {fp:List Addr}
 {tg elt iter tg1 iter1:Expr} {ifs ifs1:List Expr} {pos:Pos} {J:It} {it:Addr} {tn:Nat->Heap->Prop} {g g1:TG} {tt tt1:TT} {te:TE} {wi1:TI} {RR:Value->Addr->Result->Shared->Prop} {E:Value->Shared->Prop} {Fin:List V->Hp->Prop}
end
end L2
namespace L2
open PySem PySem.Spec PyProof.Rows
section
variable {X:Cx} {scope:Scope} {own:List Str} {fr:List Nat} {tg elt iter tg1 iter1:Expr} {ifs ifs1:List Expr} {pos:Pos} {wi wi1:TI} {g g1:TG} {tt tt1:TT} {te:TE}
end
theorem Step.back {F F1:Addr->Prop} {H H1:Hp} {Ls Ls1:Nat->List Addr} {Ld1:List Addr} (s1:Step F H Ls F1 H1 Ls1 Ld1) {a:Addr} (h:(∃ j,a∈Ls1 j)∨H1 a=none):(∃ j,a∈Ls j)∨H a=none:=by
 rcases h with ⟨j,h⟩ | h
 ·exact s1.src j a h
 ·by_cases e:∃ j,a∈Ls j
  ·exact .inl e
  ·cases q:H a with
   | none=>exact .inr rfl
   | some o=>rw [s1.keep a o q fun i z=>e ⟨i,z⟩] at h;cases h
section
variable {X:Cx} {scope:Scope} {own:List Str} {fr:List Nat} {tg elt iter tg1 iter1:Expr} {ifs ifs1:List Expr} {pos:Pos} {si si1:mZ} {g g1:fc} {t t1:dR} {el:bA}
end
end L2
namespace L2
open PySem PySem.Spec PyProof.Rows
section
variable {X:Cx}
end
end L2
namespace L2
open PySem PySem.Spec PyProof.Rows
end L2
namespace HT
open PySem PySem.Spec PyProof.Rows L2 Builtin
end HT
namespace L2
open PySem PySem.Spec PyProof.Rows
end L2
namespace L2
open PySem PySem.Spec PyProof.Rows
theorem jR (ds:List D) (lo hi:Option Int) (h:D.shs ds=true):Cg (.tup ds) lo hi=some (.tup (cutD ds lo hi)):=by
 show (if D.shs ds=true then _ else _)=_
 rw [if_pos h]
theorem lC {ds:List D} {lo hi:Option Int} {x:D} (h:x∈cutD ds lo hi):x∈ds:=by
 unfold cutD at h
 exact List.mem_of_mem_drop (List.mem_of_mem_take h)
theorem DR (ds:List D) (lo hi:Option Int):(cutD ds lo hi).length<=ds.length:=by
 unfold cutD
 rw [List.length_take,List.length_drop]
 omega
end L2
namespace L2
open PySem PySem.Spec PyProof.Rows
def notStar:Expr->Bool
 | .Starred .. => false
 | _=>true
theorem Ju {e:Expr} (h:notStar e=true) (es:List Expr) (env:Env):starEach (e :: es) env=(false,eval e env) :: starEach es env:=by
 cases e <;> first | rfl | (simp [notStar] at h)
structure SAs (X:Cx) (es:List Expr) (os:List Opd):Prop where
 h:SA X es os
theorem dH {X:Cx}:SAs X [] []:=⟨ao⟩
theorem aR {X:Cx} {e:Expr} {es:List Expr} {o:Opd} {os:List Opd} (hn:notStar e=true) (h:SO X e o) (hs:SAs X es os):SAs X (e :: es) (o :: os):=⟨aj h hs.h (Ju hn es X.env)⟩
theorem oE {X:Cx} {es:List Expr} {os:List Opd} {pos:Pos} (h:SAs X es os):SE X (.List es pos) (fj os):=jk h.h
theorem Jp {X:Cx} {es:List Expr} {os:List Opd} {pos:Pos} {x1} (h:SAs X es os):SE X (.Tuple es x1 pos) (eH os):=iw h.h
structure SEs (X:Cx) (e:Expr) (s:bA):Prop where
 h:SE X e s
theorem Bv {X:Cx} {es:List Expr} {os:List Opd} {pos:Pos} (h:SAs X es os):SEs X (.List es pos) (fj os):=⟨jk h.h⟩
theorem jA {X:Cx} {es:List Expr} {os:List Opd} {pos:Pos} {x1} (h:SAs X es os):SEs X (.Tuple es x1 pos) (eH os):=⟨iw h.h⟩
theorem eU {X:Cx} {e:Expr} {es:List Expr} {s:bA} {os:List Opd} (hn:notStar e=true) (h:SEs X e s) (hs:SAs X es os):SAs X (e :: es) (.val s :: os):=aR hn (aa h.h) hs
end L2
namespace Z
open PySem L2
end Z
namespace Z
open PySem L2 TM PyProof.Rows
mutual
def pn (m:Nat):D->Bool
 | .scr _=>false
 | .ty _=>false
 | .xc _ _=>false
 | .fn _=>false
 | .dct _ _ _=>false
 | .tup ds=>decide (ds.length<=m)&&pns m ds
 | .lst _ ds=>decide (ds.length<=m)&&pns m ds
 | .non=>true
 | .bl _=>true
 | .int _=>true
 | .str _=>true
def pns (m:Nat):List D->Bool
 | []=>true
 | d :: ds=>pn m d&&pns m ds
end
theorem qO (m:Nat):∀ ds:List D,pns m ds=true ↔ ∀ d∈ds,pn m d=true
 | []=>by simp [pns]
 | d :: ds=>by simp [pns,qO m ds]
structure Th (m:Nat) (d:D):Prop where
 s:d.sh=true
 p:pn m d=true
theorem eZ (ds:List D):D.shs ds=true ↔ ∀ d∈ds,d.sh=true:=by rw [D.shs_eq,List.all_eq_true]
theorem Th.tup {m:Nat} {ds:List D} (h:∀ d∈ds,Th m d) (hl:ds.length<=m):Th m (.tup ds):=
 ⟨by rw [D.sh];exact (eZ ds).mpr fun d hd=>(h d hd).s,by rw [pn,decide_eq_true hl,Bool.true_and];exact (qO m ds).mpr fun d hd=>(h d hd).p⟩
theorem Th.lst {m:Nat} {ds:List D} (h:∀ d∈ds,Th m d) (hl:ds.length<=m):Th m (.lst false ds):=
 ⟨by rw [D.sh,(eZ ds).mpr fun d hd=>(h d hd).s];rfl,by rw [pn,decide_eq_true hl,Bool.true_and];exact (qO m ds).mpr fun d hd=>(h d hd).p⟩
theorem Th.of_tup {m:Nat} {ds:List D} (h:Th m (.tup ds)):(∀ d∈ds,Th m d)∧ds.length<=m:=by
 have h1:=h.s
 have h2:=h.p
 rw [D.sh] at h1
 rw [pn,Bool.and_eq_true] at h2
 exact ⟨fun d hd=>⟨(eZ ds).mp h1 d hd,(qO m ds).mp h2.2 d hd⟩,of_decide_eq_true h2.1⟩
mutual
theorem Be {m k:Nat} (hmk:m<=k):∀ d:D,pn m d=true->pn k d=true
 | .scr _,h=>by simp [pn] at h
 | .ty _,h=>by simp [pn] at h
 | .xc _ _,h=>by simp [pn] at h
 | .fn _,h=>by simp [pn] at h
 | .dct _ _ _,h=>by simp [pn] at h
 | .tup ds,h=>by
  rw [pn,Bool.and_eq_true] at h ⊢
  exact ⟨decide_eq_true (by have:=of_decide_eq_true h.1;omega),sU hmk ds h.2⟩
 | .lst _ ds,h=>by
  rw [pn,Bool.and_eq_true] at h ⊢
  exact ⟨decide_eq_true (by have:=of_decide_eq_true h.1;omega),sU hmk ds h.2⟩
 | .non,_=>by simp [pn]
 | .bl _,_=>by simp [pn]
 | .int _,_=>by simp [pn]
 | .str _,_=>by simp [pn]
theorem sU {m k:Nat} (hmk:m<=k):∀ ds:List D,pns m ds=true->pns k ds=true
 | [],_=>by simp [pns]
 | d :: ds,h=>by
  rw [pns,Bool.and_eq_true] at h ⊢
  exact ⟨Be hmk d h.1,sU hmk ds h.2⟩
end
theorem Th.mono {m k:Nat} {d:D} (h:Th m d) (hk:m<=k):Th k d:=⟨h.s,Be hk d h.p⟩
theorem Th.int (m:Nat) (i:Int):Th m (.int i):=⟨rfl,by simp [pn]⟩
theorem Th.bl (m:Nat) (b:Bool):Th m (.bl b):=⟨rfl,by simp [pn]⟩
theorem Th.non (m:Nat):Th m .non:=⟨rfl,by simp [pn]⟩
theorem Th.str (m:Nat) (x:Str):Th m (.str x):=⟨rfl,by simp [pn]⟩
theorem Th.fz {m:Nat} {d:D} (h:Th m d):d.fz=d:=D.sh_fz _ h.s
def bZ (d:D) (lo hi:Int):Bool:=match d with
 | .tup ds=>decide (lo<=(ds.length:Int))&&decide ((ds.length:Int)<=hi)
 | _=>false
def au (d:D) (lo hi:Int):Bool:=match d with
 | .int i=>decide (lo<=i)&&decide (i<=hi)
 | _=>false
theorem xq {m:Nat} {d:D} (h:Th m d):∃ b,gC [d,.ty "int"]=some (.bl b)∧(b=true↔(∃ i,d = .int i) ∨ ∃ c,d = .bl c):=by
 have hp:=h.p
 cases d with
 | scr _=>simp [pn] at hp
 | ty _=>simp [pn] at hp
 | xc _ _=>simp [pn] at hp
 | fn _=>simp [pn] at hp
 | dct _ _ _=>simp [pn] at hp
 | int i=>exact ⟨true,rfl,by simp⟩
 | bl c=>exact ⟨true,rfl,by simp⟩
 | non=>exact ⟨false,rfl,by simp⟩
 | str _=>exact ⟨false,rfl,by simp⟩
 | tup _=>exact ⟨false,rfl,by simp⟩
 | lst _ _=>exact ⟨false,rfl,by simp⟩
theorem jw {m:Nat} {d:D} (h:Th m d) (hn:∀ ds,d ≠ .tup ds):gC [d,.ty "tuple"]=some (.bl false):=by
 have hp:=h.p
 cases d with
 | scr _=>simp [pn] at hp
 | ty _=>simp [pn] at hp
 | xc _ _=>simp [pn] at hp
 | fn _=>simp [pn] at hp
 | dct _ _ _=>simp [pn] at hp
 | tup ds=>exact absurd rfl (hn ds)
 | _=>rfl
theorem xu {m:Nat} {d:D} (h:Th m d) (hn:∀ i,d ≠ .int i):(gC [d,.ty "int"]=some (.bl false)) ∨ ∃ c,d = .bl c:=by
 have hp:=h.p
 cases d with
 | scr _=>simp [pn] at hp
 | ty _=>simp [pn] at hp
 | xc _ _=>simp [pn] at hp
 | fn _=>simp [pn] at hp
 | dct _ _ _=>simp [pn] at hp
 | int i=>exact absurd rfl (hn i)
 | bl c=>exact .inr ⟨c,rfl⟩
 | _=>exact .inl rfl
theorem Ak (c:Bool):gC [.bl c,.ty "int"]=some (.bl true):=rfl
theorem Aj (c:Bool):gC [.bl c,.ty "bool"]=some (.bl true):=rfl
theorem DG {m:Nat} {d:D} (h:Th m d) (hn:∀ i,d ≠ .int i) {Q:D->Option D->Prop} (q:Q (.bl false) none):cj [d] Q:=by
 rcases xu h hn with e | ⟨c,rfl⟩
 ·dsimp? only [cj,e]
  exact q
 ·dsimp? only [cj,Ak,Aj]
  exact q
theorem yR (d:D):(∃ i,d = .int i) ∨ ∀ i,d ≠ .int i:=by
 cases d with
 | int i=>exact .inl ⟨i,rfl⟩
 | _=>exact .inr fun i z=>by cases z
theorem eX (d:D):(∃ ds,d = .tup ds) ∨ ∀ ds,d ≠ .tup ds:=by
 cases d with
 | tup ds=>exact .inl ⟨ds,rfl⟩
 | _=>exact .inr fun i z=>by cases z
theorem mW {d:D} (hn:∀ i,d ≠ .int i) (lo hi:Int):au d lo hi=false:=by
 cases d with
 | int i=>exact absurd rfl (hn i)
 | _=>rfl
theorem cH {d:D} (hn:∀ ds,d ≠ .tup ds) (lo hi:Int):bZ d lo hi=false:=by
 cases d with
 | tup i=>exact absurd rfl (hn i)
 | _=>rfl
theorem bw {m:Nat} {d:D} (h:Th m d) {lo hi:Int} {Q:D->Option D->Prop} (q:Q (.bl (au d lo hi)) none):aG [d,.int lo,.int hi] Q:=by
 rcases yR d with ⟨i,rfl⟩ | hn
 ·exact nT q
 ·rw [mW hn] at q
  dsimp? only [aG,h.fz]
  refine DG h hn ?_
  dsimp? only
  exact q
theorem eY {m:Nat} {d:D} (h:Th m d) {lo hi:Int} {Q:D->Option D->Prop} (q:Q (.bl (bZ d lo hi)) none):bM [d,.int lo,.int hi] Q:=by
 rcases eX d with ⟨ds,rfl⟩ | hn
 ·exact uz q
 ·rw [cH hn] at q
  dsimp? only [bM,jw h hn]
  exact q
end Z
namespace Z
open PySem L2 TM PyProof.Rows
def yq:D->D->Bool
 | .int i,.int j=>i==j
 | _,_=>false
def iJ (n:Int):D->Bool
 | .tup [a,b,c,e]=>au a 0 (n - 1)&&(au b 0 (n - 1)&&(!yq a b&&(au c 1 9&&au e 0 99)))
 | _=>false
theorem bV {d:D} {lo hi:Int} (h:au d lo hi=true):∃ i,d = .int i∧lo<=i∧i<=hi:=by
 rcases yR d with ⟨i,rfl⟩ | hn
 ·have h':(decide (lo<=i)&&decide (i<=hi))=true:=h
  rw [Bool.and_eq_true] at h'
  exact ⟨i,rfl,of_decide_eq_true h'.1,of_decide_eq_true h'.2⟩
 ·rw [mW hn] at h;cases h
theorem nJ (d:D):(∃ a b c e,d = .tup [a,b,c,e])∨(∃ ds,d = .tup ds∧ds.length≠4) ∨ ∀ ds,d ≠ .tup ds:=by
 rcases eX d with ⟨ds,rfl⟩ | hn
 ·by_cases h:ds.length=4
  ·match ds,h with
   | [a,b,c,e],_=>exact .inl ⟨a,b,c,e,rfl⟩
  ·exact .inr (.inl ⟨ds,rfl,h⟩)
 ·exact .inr (.inr hn)
theorem pq {n:Int} {ds:List D} (h:ds.length≠4):iJ n (.tup ds)=false:=by
 unfold iJ
 split
 ·rename_i z;cases z;exact absurd rfl h
 ·rfl
theorem pA {n:Int} {d:D} (h:∀ ds,d ≠ .tup ds):iJ n d=false:=by
 unfold iJ
 split
 ·exact absurd rfl (h _)
 ·rfl
theorem sW {ds:List D} (h:ds.length≠4):bZ (.tup ds) 4 4=false:=by
 show (decide ((4:Int)<=(ds.length:Int))&&decide ((ds.length:Int)<=4))=false
 by_cases c:(4:Int)<=(ds.length:Int)
 ·rw [decide_eq_true c,Bool.true_and];exact decide_eq_false (by omega)
 ·rw [decide_eq_false c];rfl
theorem Fq {m:Nat} {n:Int} {d:D} (h:Th m d) {Q:D->Option D->Prop} (q:Q (.bl (iJ n d)) none):il [d,.int n] Q:=by
 have hs:=h.s
 dsimp? only [il,h.fz]
 refine eY h ?_
 rcases nJ d with ⟨a,b,c,e,rfl⟩ | ⟨ds,rfl,hd⟩ | hn
 ·obtain ⟨ht,_⟩:=h.of_tup
  have ha:=ht a (by simp);have hb:=ht b (by simp);have hc:=ht c (by simp);have he:=ht e (by simp)
  have er:bZ (.tup [a,b,c,e]) 4 4=true:=rfl
  dsimp? only [er,hs,ha.s,hb.s,hc.s,he.s,ha.fz,hb.fz,hc.fz,he.fz]
  refine bw ha ?_
  have q':Q (.bl (au a 0 (n - 1)&&(au b 0 (n - 1)&&(!yq a b&&(au c 1 9&&au e 0 99))))) none:=q
  cases w1:au a 0 (n - 1) with
  | false=>
   rw [w1] at q'
   (try dsimp? only)
   exact q'
  | true=>
   rw [w1,Bool.true_and] at q'
   dsimp? only [hb.fz,hs,ha.s,hb.s,hc.s,he.s]
   refine bw hb ?_
   cases w2:au b 0 (n - 1) with
   | false=>
    rw [w2] at q'
    (try dsimp? only)
    exact q'
   | true=>
    rw [w2,Bool.true_and] at q'
    obtain ⟨i,rfl,_⟩:=bV w1
    obtain ⟨j,rfl,_⟩:=bV w2
    (try dsimp? only)
    have q2:Q (.bl (!(i==j)&&(au c 1 9&&au e 0 99))) none:=q'
    refine oZ (fun hc'=>?_) fun hc'=>?_
    ·rw [hc'] at q2
     (try dsimp? only)
     exact q2
    ·rw [hc',Bool.not_false,Bool.true_and] at q2
     dsimp? only [hc.fz]
     refine bw hc ?_
     cases w3:au c 1 9 with
     | false=>
      rw [w3] at q2
      (try dsimp? only)
      exact q2
     | true=>
      rw [w3,Bool.true_and] at q2
      dsimp? only [he.fz,hc.s,he.s]
      refine bw he ?_
      (try dsimp? only)
      exact q2
 ·rw [pq hd] at q
  dsimp? only [sW hd]
  exact q
 ·rw [pA hn] at q
  dsimp? only [cH hn]
  exact q
end Z
namespace Z
open PySem L2
def cQ:cW:=fnS 3 3 true
 (aD (bD 3 (aA 2 aq 0 [.val (sC (.int 4))]))
 (aD (bD 4 (sDo cC [.val (aA 2 aq 0 [.val (sDo dIx [.val (fj [.val (sC (.int 100)),.val (sC (.int 21)),.val (sC (.int 1)),.val (sC (.int 7))]),.nam 3])]),.val (sDo mF [.val (sC (.int 99)),.val (sDo DX [.val (sDo dEq [.nam 3,.val (sC (.int 2))])])])]))
 (aD (bD 5 (sDo dIx [.val (fj [.val (eH [.val (cu 1),.val (cu 2)]),.val (eH [.val (cu 2),.val (cu 1)])]),.val (aA 2 aq 0 [.val (sC (.int 2))])]))
 (bI (sDo cC [.nam 5,.val (eH [.val (sDo cC [.val (sC (.int 1)),.val (aA 2 aq 0 [.val (sC (.int 9))])]),.val (cu 4)])])))))
def fM:cW:=fnS 1 7 true
 (aD (bD 1 (sDo cC [.val (sC (.int 1)),.val (aA 2 aq 0 [.val (sC (.int 4))])]))
 (aD (bD 2 (sC (.int 0)))
 (aD (sIf (tB' (sDo dGt [.nam 1,.val (sC (.int 1))]))
 (bD 2 (aA 2 aq 0 [.val (sDo jH [.val (sC (.int 8)),.nam 1])]))
 (bF))
 (aD (bD 3 (fj []))
 (aD (gU (nR (.val (sC (.int 1))) (.nam 1)) (gN 4)
 (aD (bD 5 (aA 2 aq 0 [.val (sDo cC [.val (sDo jQ [.nam 3]),.val (sC (.int 1))])]))
 (jW (lW jx 3 [.val (cu 5),.val (aA 3 cQ 0 [.val (aA 2 aq 0 [.nam 4]),.nam 4])]))))
 (aD (gU (cG (.nam 2)) (gN 6)
 (aD (bD 5 (aA 2 aq 0 [.val (sDo cC [.val (sDo jQ [.nam 3]),.val (sC (.int 1))])]))
 (aD (bD 7 (aA 2 aq 0 [.nam 1]))
 (jW (lW jx 3 [.val (cu 5),.val (aA 3 cQ 0 [.nam 7,.val (sDo jG [.val (sDo cC [.val (sDo cC [.nam 7,.val (sC (.int 1))]),.val (aA 2 aq 0 [.val (sDo jH [.nam 1,.val (sC (.int 1))])])]),.nam 1])])])))))
 (bI (eH [.val (cu 1),.val (sDo iZ [.nam 3])]))))))))
def gr:cW:=fnS 2 7 true
 (aD (bD 2 (aA 2 aq 0 [.val (sC (.int 2))]))
 (aD (bD 3 (aA 2 aq 0 [.val (sDo dIx [.val (fj [.val (sC (.int 21)),.val (sC (.int 4))]),.nam 2])]))
 (aD (bD 4 (aA 2 aq 0 [.val (sDo dIx [.val (fj [.val (sC (.int 100)),.val (sC (.int 6))]),.nam 2])]))
 (aD (bD 5 (aA 2 aq 0 [.val (sDo dIx [.val (fj [.val (sC (.int 100)),.val (sC (.int 6))]),.nam 2])]))
 (aD (bD 6 (fj [.val (eH [.val (sDo cC [.val (sC (.int 1)),.val (aA 2 aq 0 [.val (sC (.int 20))])]),.val (cu 5)])]))
 (aD (sIf (tB' (sDo dEq [.val (aA 2 aq 0 [.val (sC (.int 2))]),.val (sC (.int 1))]))
 (jW (lW gG 6 [.val (eH [.val (sDo cC [.val (sC (.int 1)),.val (aA 2 aq 0 [.val (sC (.int 20))])]),.val (sDo cC [.nam 5,.val (aA 2 aq 0 [.val (sDo jH [.val (sC (.int 100)),.nam 5])])])])]))
 (bF))
 (aD (bD 7 (aA 2 aq 0 [.val (sDo dIx [.val (fj [.val (sC (.int 100)),.val (sC (.int 21)),.val (sC (.int 1))]),.val (aA 2 aq 0 [.val (sC (.int 3))])])]))
 (aD (bD 8 (eH [.val (sDo cC [.val (sC (.int 1)),.val (aA 2 aq 0 [.val (sC (.int 2))])]),.val (sDo cC [.val (sC (.int 1)),.val (aA 2 aq 0 [.val (sC (.int 2))])]),.val (sDo dEq [.val (aA 2 aq 0 [.val (sC (.int 2))]),.val (sC (.int 1))])]))
 (bI (sDo cC [.val (eH [.val (aA 2 aq 0 [.nam 1]),.val (cu 3),.val (cu 4),.val (sDo iZ [.nam 6]),.val (cu 7)]),.nam 8]))))))))))
def gM:cW:=fnS 2 2 true
 (aD (sIf (tB' (sDo dEq [.val (aA 2 aq 0 [.val (sC (.int 3))]),.val (sC (.int 0))]))
 (bI (sC .non))
 (bF))
 (aD (bD 2 (sDo cC [.val (sC (.int 1)),.val (aA 2 aq 0 [.val (sC (.int 2))])]))
 (aD (bD 3 (sDo cC [.val (sC (.int 1)),.val (aA 2 aq 0 [.val (sC (.int 20))])]))
 (bI (eH [.val (aA 2 aq 0 [.nam 1]),.val (cu 2),.val (aA 2 aq 0 [.val (sDo cC [.nam 2,.val (sC (.int 1))])]),.val (cu 3),.val (aA 2 aq 0 [.val (sDo cC [.nam 3,.val (sC (.int 1))])])])))))
def fP:cW:=fnS 2 3 true
 (aD (bD 2 (fj []))
 (aD (gU (cG (.val (aA 2 aq 0 [.val (sC (.int 4))]))) (gN 3)
 (aD (bD 4 (aA 2 aq 0 [.val (sC (.int 100))]))
 (aD (sIf (tB' (sDo dEq [.val (aA 2 aq 0 [.val (sC (.int 4))]),.val (sC (.int 3))]))
 (bD 4 (sC (.int 100)))
 (bF))
 (jW (lW gG 2 [.val (eH [.val (aA 2 aq 0 [.nam 1]),.val (aA 2 aq 0 [.val (sDo dIx [.val (fj [.val (sC (.int 31)),.val (sC (.int 6))]),.val (aA 2 aq 0 [.val (sC (.int 2))])])]),.val (cu 4)])])))))
 (bI (sDo iZ [.nam 2]))))
def dY:cW:=fnS 3 4 true
 (aD (bD 3 (aA 1 fM 0 []))
 (aD (bD 4 (sDo iZ [.val (gW (cG (.val (aA 2 aq 0 [.val (sDo cC [.nam 1,.val (sC (.int 1))])]))) 1 [0,3] (gN 0) (jN) (aA 2 gr 1 [.val (bH 2 (.val (sC (.int 0))))]))]))
 (aD (bD 5 (aA 2 gM 0 [.val (bH 3 (.val (sC (.int 0))))]))
 (aD (bD 6 (sDo iZ [.val (gW (cG (.val (sDo cC [.val (sC (.int 1)),.val (aA 2 aq 0 [.nam 2])]))) 1 [0,3] (gN 0) (jN) (aA 2 fP 1 [.val (bH 2 (.val (sC (.int 0))))]))]))
 (bI (eH [.val (cu 3),.val (cu 4),.val (cu 5),.val (cu 6)]))))))
end Z
namespace Z
open PySem L2 TM
structure Wk where
 p:Nat
 a:Nat
 b:Nat
 ps:List (Nat×Nat)
 c:Nat
 g:Nat
 e:Nat
 f:Bool
def pcD (x:Nat×Nat):D:=.tup [.int (x.1:Int),.int (x.2:Int)]
def Wk.d (w:Wk):D:=.tup [.int (w.p:Int),.int (w.a:Int),.int (w.b:Int),.tup (w.ps.map pcD),.int (w.c:Int),.int (w.g:Int),.int (w.e:Int),.bl w.f]
structure Wt where
 p:Nat
 s:Nat
 w:Nat
def Wt.d (t:Wt):D:=.tup [.int (t.p:Int),.int (t.s:Int),.int (t.w:Int)]
structure Sr where
 p:Nat
 a:Nat
 b:Nat
 c:Nat
 g:Nat
def stD:Option Sr->D
 | none=>.non
 | some s=>.tup [.int (s.p:Int),.int (s.a:Int),.int (s.b:Int),.int (s.c:Int),.int (s.g:Int)]
theorem GK (l:List (Nat×Nat)):D.shs (l.map pcD)=true:=lg pcD (fun _=>rfl) l
theorem Ku (l:List (Nat×Nat)):D.cleans (l.map pcD)=true:=gY pcD (fun _=>rfl) l
theorem Qf (w:Wk):w.d.sh=true:=by show (true&&(true&&(true&&(D.shs (w.ps.map pcD)&&(true&&(true&&(true&&(true&&true))))))))=true;rw [GK];rfl
theorem JM (w:Wk):w.d.clean=true:=by show (true&&(true&&(true&&(D.cleans (w.ps.map pcD)&&(true&&(true&&(true&&(true&&true))))))))=true;rw [Ku];rfl
theorem Bw (l:List Wk):D.shs (l.map Wk.d)=true:=lg _ Qf l
theorem Hv (l:List Wk):D.cleans (l.map Wk.d)=true:=gY _ JM l
theorem Bx (l:List Wt):D.shs (l.map Wt.d)=true:=lg _ (fun _=>rfl) l
theorem Hw (l:List Wt):D.cleans (l.map Wt.d)=true:=gY _ (fun _=>rfl) l
def hrD (l:List Wt):D:=.tup (l.map Wt.d)
theorem Qa (l:List Wt):(hrD l).sh=true:=Bx l
theorem JK (l:List Wt):(hrD l).clean=true:=Hw l
theorem Jq (l:List (List Wt)):D.shs (l.map hrD)=true:=lg _ Qa l
theorem Hu (l:List (List Wt)):D.cleans (l.map hrD)=true:=gY _ JK l
theorem Qe (o:Option Sr):(stD o).sh=true:=by cases o <;> rfl
theorem JL (o:Option Sr):(stD o).clean=true:=by cases o <;> rfl
structure Flat (ds:List D):Prop where
 s:D.shs ds=true
 c:D.cleans ds=true
 l:ds.length<=10
theorem Flat.f {ds:List D} (h:Flat ds):D.fzs ds=ds:=D.shs_fz ds h.s
theorem pkI (x y:Int):∀ r:Nat,r<2 -> ∃ z,(z=x∨z=y)∧dIx [.lst true [.int x,.int y],.int (r:Int)]=some (.int z)
 | 0,_=>⟨x,.inl rfl,rfl⟩
 | 1,_=>⟨y,.inr rfl,rfl⟩
 | r+2,h=>by omega
theorem pk3 (x y z:Int):∀ r:Nat,r<3 -> ∃ v,(v=x∨v=y∨v=z)∧dIx [.lst true [.int x,.int y,.int z],.int (r:Int)]=some (.int v)
 | 0,_=>⟨x,.inl rfl,rfl⟩
 | 1,_=>⟨y,.inr (.inl rfl),rfl⟩
 | 2,_=>⟨z,.inr (.inr rfl),rfl⟩
 | r+3,h=>by omega
theorem pk4 (x y z u:Int):∀ r:Nat,r<4 -> ∃ v,(v=x∨v=y∨v=z∨v=u)∧dIx [.lst true [.int x,.int y,.int z,.int u],.int (r:Int)]=some (.int v)
 | 0,_=>⟨x,.inl rfl,rfl⟩
 | 1,_=>⟨y,.inr (.inl rfl),rfl⟩
 | 2,_=>⟨z,.inr (.inr (.inl rfl)),rfl⟩
 | 3,_=>⟨u,.inr (.inr (.inr rfl)),rfl⟩
 | r+4,h=>by omega
theorem aV {bag:D} {m:Int} (hB:Bag bag) (hm:0<m) {Q:D->Option D->Prop} (h:∀ (bag':D) (r:Nat),Bag bag'->(r:Int)<m->Q (.int r) (some bag')):aq [bag,.int m] Q:=by
 obtain ⟨k,rfl⟩:∃ k:Nat,m=(k:Int):=⟨m.toNat,by omega⟩
 exact qe hB (by omega) fun bag' r hB' hr=>h bag' r hB' (by omega)
theorem Lx {ds:List D} {d:D} (h:ds.length<=100):gG ds [d]=some (ds++[d],.non):=Fv _ _ (by rw [sizeLine_eq];omega)
def oM:cP:=(aD (bD 7 (aA 2 aq 0 [.val (sDo dIx [.val (fj [.val (sC (.int 100)),.val (sC (.int 21)),.val (sC (.int 1))]),.val (aA 2 aq 0 [.val (sC (.int 3))])])]))
 (aD (bD 8 (eH [.val (sDo cC [.val (sC (.int 1)),.val (aA 2 aq 0 [.val (sC (.int 2))])]),.val (sDo cC [.val (sC (.int 1)),.val (aA 2 aq 0 [.val (sC (.int 2))])]),.val (sDo dEq [.val (aA 2 aq 0 [.val (sC (.int 2))]),.val (sC (.int 1))])]))
 (bI (sDo cC [.val (eH [.val (aA 2 aq 0 [.nam 1]),.val (cu 3),.val (cu 4),.val (sDo iZ [.nam 6]),.val (cu 7)]),.nam 8]))))
def oK:cP:=(jW (lW gG 2 [.val (eH [.val (aA 2 aq 0 [.nam 1]),.val (aA 2 aq 0 [.val (sDo dIx [.val (fj [.val (sC (.int 31)),.val (sC (.int 6))]),.val (aA 2 aq 0 [.val (sC (.int 2))])])]),.val (cu 4)])]))
theorem uP {bag:D} {n w:Nat} {l:List Wt} {x:Option D} {E:EndD} (hB:Bag bag) (hn:0<n) (hw:w<=100) (hl:l.length<=3) (h:∀ (bag':D) (t:Wt),Bag bag'->(t.p<n∧t.s<=30∧t.w<=100)->E.nx [some bag',some (.int n),some (.lst true ((l++[t]).map Wt.d)),x,some (.int w)]) :
  oK [some bag,some (.int n),some (.lst true (l.map Wt.d)),x,some (.int w)] E:=by
 dsimp? only [oK]
 refine aV hB (by omega) fun bag1 p hB1 hp=>?_
 dsimp? only [hB1.clean]
 refine aV hB1 (by decide) fun bag2 r hB2 hr=>?_
 obtain ⟨m,hm,ix⟩:=pkI 31 6 r (by omega)
 dsimp? only [hB2.clean,ix]
 refine aV hB2 (by omega) fun bag3 q hB3 hq=>?_
 dsimp? only [hB3.clean,Lx (ds:=l.map Wt.d) (d:=.tup [.int (p:Int),.int (q:Int),.int (w:Int)]) (by rw [List.length_map];omega)]
 have e:l.map Wt.d++[D.tup [.int (p:Int),.int (q:Int),.int (w:Int)]]=(l++[(⟨p,q,w⟩:Wt)]).map Wt.d:=by rw [List.map_append];rfl
 rw [e]
 exact h bag3 ⟨p,q,w⟩ hB3 ⟨by show p<n;omega,by show q<=30;omega,hw⟩
theorem vq {bag:D} {n:Nat} (hB:Bag bag) (hn:0<n) {Q:D->Option D->Prop} (h:∀ (bag':D) (l:List Wt),Bag bag'->l.length<=3->(∀ t∈l,t.p<n∧t.s<=30∧t.w<=100)->Q (hrD l) (some bag')):fP [bag,.int n] Q:=by
 have p62:(2:Int) ^ 62=4611686018427387904:=by decide
 have es:fP=fnS 2 3 true (aD (bD 2 (fj [])) (aD (gU (cG (.val (aA 2 aq 0 [.val (sC (.int 4))]))) (gN 3) (aD (bD 4 (aA 2 aq 0 [.val (sC (.int 100))])) (aD (sIf (tB' (sDo dEq [.val (aA 2 aq 0 [.val (sC (.int 4))]),.val (sC (.int 3))])) (bD 4 (sC (.int 100))) (bF)) oK))) (bI (sDo iZ [.nam 2])))):=by unfold fP oK;with_reducible rfl
 rw [es]
 dsimp? only
 refine aV hB (by decide) fun bag1 r1 hB1 h1=>?_
 have e1:(r1:Int).toNat=r1:=by omega
 dsimp? only [hB1.clean]
 rw [e1]
 refine bR ⟨by omega,by omega,by omega⟩ ?_
 (try dsimp? only)
 refine dN (fun k ρ => ∃ (bag:D) (l:List Wt) (x3 x4:Option D),ρ = [some bag,some (.int n),some (.lst true (l.map Wt.d)),x3,x4]∧Bag bag∧l.length=k ∧ ∀ t∈l,t.p<n∧t.s<=30∧t.w<=100) 0 ⟨bag1,[],_,_,rfl,hB1,rfl,fun t h=>by simp at h⟩ ?_ ?_
 ·rintro k d ρ hd ⟨bag,l,x3,x4,rfl,hB,hl,ht⟩ P hP
  obtain ⟨hk,rfl⟩:=jf hd
  rw [Nat.zero_add] at hl hP
  have fin:∀ (bag':D) (t:Wt) (x4:Option D),Bag bag'->(t.p<n∧t.s<=30∧t.w<=100)->P [some bag',some (.int n),some (.lst true ((l++[t]).map Wt.d)),some (.int (0+(k:Int))),x4]:=fun bag' t x4 hB' h'=>hP _ ⟨bag',l++[t],_,_,rfl,hB',by simp [hl],fun t' hm=>by
   rcases List.mem_append.mp hm with z | z
   ·exact ht t' z
   ·rw [List.mem_singleton.mp z];exact h'⟩
  dsimp? only
  refine aV hB (by decide) fun bag2 w hB2 hw=>?_
  dsimp? only [hB2.clean]
  refine aV hB2 (by decide) fun bag3 r3 hB3 h3=>?_
  dsimp? only [hB3.clean]
  refine oZ (fun hc=>?_) fun hc=>?_
  ·(try dsimp? only)
   exact uP (w:=100) hB3 hn (by decide) (by omega) fun bag' t hB' h'=>fin bag' t _ hB' h'
  ·(try dsimp? only)
   exact uP hB3 hn (by omega) (by omega) fun bag' t hB' h'=>fin bag' t _ hB' h'
 rintro ρ ⟨bag2,l,x3,x4,rfl,hB2,hl,ht⟩
 rw [jV,Nat.zero_add] at hl
 dsimp? only [Bx]
 exact h bag2 l hB2 (by omega) ht
end Z
namespace Z
open PySem L2 TM
structure Lns (ds:List D) (m:Nat):Prop where
 s:∀ d∈ds,d.sh=true
 c:∀ d∈ds,d.clean=true
 l:ds.length<=m
theorem Lns.shs {ds:List D} {m:Nat} (h:Lns ds m):D.shs ds=true:=by rw [D.shs_eq,List.all_eq_true];exact h.s
theorem Lns.cls {ds:List D} {m:Nat} (h:Lns ds m):D.cleans ds=true:=by rw [D.cleans_eq,List.all_eq_true];exact h.c
theorem Lns.fzs {ds:List D} {m:Nat} (h:Lns ds m):D.fzs ds=ds:=D.shs_fz ds h.shs
theorem Lns.ins {ds:List D} {m p:Nat} {d:D} (h:Lns ds m) (h1:d.sh=true) (h2:d.clean=true) (hp:p<=ds.length):Lns (ds.take p++d :: ds.drop p) (m+1):=by
 have mem:∀ x∈ds.take p++d :: ds.drop p,x∈ds∨x=d:=fun x hx=>by
  rcases List.mem_append.mp hx with z | z
  ·exact .inl (List.mem_of_mem_take z)
  ·rcases List.mem_cons.mp z with z | z
   ·exact .inr z
   ·exact .inl (List.mem_of_mem_drop z)
 refine ⟨fun x hx=>?_,fun x hx=>?_,?_⟩
 ·rcases mem x hx with z | z
  ·exact h.s x z
  ·rw [z];exact h1
 ·rcases mem x hx with z | z
  ·exact h.c x z
  ·rw [z];exact h2
 ·have:=h.l
  rw [List.length_append,List.length_cons,List.length_take,List.length_drop];omega
def qM:cP:=(aD (bD 3 (fj [])) (aD (gU (nR (.val (sC (.int 1))) (.nam 1)) (gN 4) (aD (bD 5 (aA 2 aq 0 [.val (sDo cC [.val (sDo jQ [.nam 3]),.val (sC (.int 1))])])) (jW (lW jx 3 [.val (cu 5),.val (aA 3 cQ 0 [.val (aA 2 aq 0 [.nam 4]),.nam 4])])))) (aD (gU (cG (.nam 2)) (gN 6) (aD (bD 5 (aA 2 aq 0 [.val (sDo cC [.val (sDo jQ [.nam 3]),.val (sC (.int 1))])])) (aD (bD 7 (aA 2 aq 0 [.nam 1])) (jW (lW jx 3 [.val (cu 5),.val (aA 3 cQ 0 [.nam 7,.val (sDo jG [.val (sDo cC [.val (sDo cC [.nam 7,.val (sC (.int 1))]),.val (aA 2 aq 0 [.val (sDo jH [.nam 1,.val (sC (.int 1))])])]),.nam 1])])]))))) (bI (eH [.val (cu 1),.val (sDo iZ [.nam 3])])))))
theorem vB {α : Type} (g : α -> D) {P : α -> Prop}:∀ {ds:List D},(∀ (i:Nat) d,ds[i]? = some d -> ∃ q,P q∧d=g q) -> ∃ qs:List α,ds=qs.map g ∧ ∀ q∈qs,P q
 | [],_=>⟨[],rfl,fun q h=>by simp at h⟩
 | d :: ds,h=>by
  obtain ⟨q,hq,rfl⟩:=h 0 d rfl
  obtain ⟨qs,rfl,hqs⟩:=vB g (ds:=ds) fun i d e=>h (i+1) d (by simpa using e)
  exact ⟨q :: qs,rfl,fun x hx=>by
   rcases List.mem_cons.mp hx with rfl | hx
   ·exact hq
   ·exact hqs x hx⟩
structure HouseOk (n:Nat) (ds:List D) (ws:List Wk) (o:Option Sr) (hs:List (List Wt)):Prop where
 n1:1<=n
 n4:n<=4
 d:Lns ds 20
 wl:ws.length<=3
 w:∀ w∈ws,w.p<n∧w.a<=20∧w.ps.length<=2∧w.g<=2∧w.e<=2∧w.c<=100
 o:∀ s,o=some s->s.p<n∧s.c<=20∧s.g<=20∧s.b<=s.a
 h1:1<=hs.length
 h3:hs.length<=3
 h:∀ l∈hs,l.length<=3 ∧ ∀ t∈l,t.p<n∧t.s<=30∧t.w<=100
end Z
namespace L2
open PySem PySem.Spec PyProof.Rows
section
variable {κ : Type} [DecidableEq κ]
def vY (kvs:List (κ × V)) (k : κ):Option V:=(kvs.find? fun kv=>decide (kv.1=k)).map (·.2)
def putK (kvs:List (κ × V)) (k : κ) (v:V):List (κ × V):=
 if (kvs.any fun kv=>decide (kv.1=k))=true then kvs.map (fun kv=>if kv.1=k then (kv.1,v) else kv) else kvs++[(k,v)]
theorem yG {p : κ × V} {r:List (κ × V)} {k : κ} (e:p.1=k):vY (p :: r) k=some p.2:=by simp [vY,List.find?_cons,e]
theorem yF {p : κ × V} {r:List (κ × V)} {k : κ} (e:¬ p.1=k):vY (p :: r) k=vY r k:=by simp [vY,List.find?_cons,e]
theorem tK (k : κ):∀ kvs:List (κ × V),(kvs.any fun kv=>decide (kv.1=k))=(vY kvs k).isSome
 | []=>rfl
 | p :: r=>by
  rw [List.any_cons]
  by_cases e:p.1=k
  ·simp only [yG e,decide_eq_true e,Bool.true_or,Option.isSome_some]
  ·rw [yF e,decide_eq_false e,Bool.false_or];exact tK k r
theorem qg (kvs:List (κ × V)) (k : κ) (v:V):(putK kvs k v).length<=kvs.length+1:=by
 unfold putK
 split
 ·rw [List.length_map];omega
 ·rw [List.length_append,List.length_cons,List.length_nil];omega
theorem wu.isSome_eq {o:Option V} {u:Option Value} (r:wu o u):o.isSome=u.isSome:=by
 cases o with
 | none=>cases u with
  | none=>rfl
  | some _=>exact (show False from r).elim
 | some _=>cases u with
  | none=>exact (show False from r).elim
  | some _=>rfl
theorem KV.val {kvs:List (κ × V)} {vs:List (κ × Value)} (r:KV kvs vs) (k : κ):wu (vY kvs k) (valueAt vs k):=by
 unfold KV at r
 induction r with
 | nil=>exact True.intro
 | @cons p q ps qs h t ih=>
  obtain ⟨h1,h2⟩:=h
  by_cases e:p.1=k
  ·have e':q.1=k:=h1.symm.trans e
   have b:valueAt (q :: qs) k=some q.2:=by simp [valueAt,List.find?_cons,e']
   rw [yG e,b];exact h2
  ·have e':¬ q.1=k:=fun z=>e (h1.trans z)
   have b:valueAt (q :: qs) k=valueAt qs k:=by simp [valueAt,List.find?_cons,e']
   rw [yF e,b];exact ih
theorem KV.any {kvs:List (κ × V)} {vs:List (κ × Value)} (r:KV kvs vs) (k : κ):(kvs.any fun kv=>decide (kv.1=k))=vs.any fun kv=>decide (kv.1=k):=by
 unfold KV at r
 induction r with
 | nil=>rfl
 | cons h t ih=>rw [List.any_cons,List.any_cons,ih,h.1]
theorem KV.repl {kvs:List (κ × V)} {vs:List (κ × Value)} (r:KV kvs vs) (k : κ) {y:V} {u:Value} (ry:RelV y u) :
  KV (kvs.map fun kv=>if kv.1=k then (kv.1,y) else kv) (vs.map fun kv=>if kv.1=k then (kv.1,u) else kv):=by
 unfold KV at r ⊢
 induction r with
 | nil=>exact .nil
 | @cons p q ps qs h t ih=>
  rw [List.map_cons,List.map_cons]
  refine .cons ?_ ih
  obtain ⟨h1,h2⟩:=h
  by_cases e:p.1=k
  ·rw [if_pos e,if_pos (h1.symm.trans e)];exact ⟨h1,ry⟩
  ·rw [if_neg e,if_neg (fun z=>e (h1.trans z))];exact ⟨h1,h2⟩
theorem KV.put {kvs:List (κ × V)} {vs:List (κ × Value)} (r:KV kvs vs) (k : κ) {y:V} {u:Value} (ry:RelV y u):KV (putK kvs k y) (stored vs k u):=by
 unfold putK stored
 rw [r.any k]
 by_cases e:(vs.any fun kv=>decide (kv.1=k))=true
 ·rw [if_pos e,if_pos e];exact r.repl k ry
 ·rw [if_neg e,if_neg e];exact Paired.snoc r ⟨rfl,ry⟩
theorem KV.length {kvs:List (κ × V)} {vs:List (κ × Value)} (r:KV kvs vs):kvs.length=vs.length:=Paired.length r
end
theorem Fl {P:Program} {w:World} {k:Key} {u:Value} (r:RelV (kV k) u):(gH P w).is k u=true:=by
 cases k with
 | inl i=>obtain ⟨t,e⟩:=(show ∃ t,u=Value.int i t from r);subst e;exact xK P w i t
 | inr x=>obtain ⟨t,e⟩:=(show ∃ t,u=Value.str x t from r);subst e;exact xM P w x t
section
variable {P:Program} {w:World} {H:Hp} {h:Heap} {a:Addr}
theorem Pz {u:HO} (ok:HOk P w H h) (e:Rd H a u):dI P w H h a u:=e.ok ok
theorem JP {kvs:List (Key×V)} (ok:HOk P w H h) (e:Rd H a (.dK kvs)):kvs.length<=sizeLine∧(a==sysModules)=false ∧ ∃ vs,KV kvs vs∧h.DictOf (gH P w) a vs:=
 show dI P w H h a (.dK kvs) from Pz ok e
theorem Eh {kvs:List (Key×V)} (ok:HOk P w H h) (e:H a=some (.dK kvs)):kvs.length<=sizeLine∧(a==sysModules)=false ∧ ∃ vs,KV kvs vs∧h.DictOf (gH P w) a vs:=JP ok (.inl e)
end
section
variable {X:Cx} {pins:List (Addr×Obj)} {σ : St} {H:Hp} {s:Shared} {a:Addr} {y v:V} {u r:Value} {o:Option V} {A:Around} {E:Value->Shared->Prop} {kvs:List (Key×V)} {k:Key}
theorem Inv.big (I:Inv X pins σ H s):sysModules<s.heap.objs.size:=by
 have h:mainGlobals<s.heap.objs.size:=(I.mod.glob.keeps I.bk).lt
 exact Nat.lt_trans (by decide) h
theorem zU {h':Heap} {t':Nat} {ob:HO} (I:Inv X pins σ H s) (mu:Mut (H a)) (hs:Heap.SameBut a s.heap h') (he:∃ q,h'.get? a=some q) (new:dI X.prog X.w (upd H a ob) h' a ob) :
  Inv X pins σ (upd H a ob) { s with heap:=h',toks:=t' }:=
 I.write (x:=a) (e:=a) mu (.inl rfl) (fun b q hb z=>(hs.2 b hb).trans z) he new
theorem Eg {P:Program} {w:World} {H':Hp} {h':Heap} {kvs:List (Key×V)} {vs:List (Key×Value)} (z:kvs.length<=sizeLine) (hd:(a==sysModules)=false) (rel:KV kvs vs) (dd:h'.DictOf (gH P w) a vs) :
  dI P w H' h' a (.dK kvs):=⟨z,hd,vs,rel,dd⟩
theorem Oi {Q:Value->Shared->Prop} (I:Inv X pins σ H s) (e:Rd H a (.dK kvs)) (h:∀ t s',Inv X pins σ H s'->Q (.int kvs.length t) s'):wpAny (model X.prog X.w) A (call (.builtin "len") [.ref a]) Q E s:=by
 obtain ⟨z,hd,vs,rel,dd⟩:=JP I.hok e
 refine call_len_dict hd dd (by rw [← rel.length];rw [sizeLine_eq] at z;omega) ?_
 rw [← rel.length]
 exact h _ _ (I.tok _)
theorem Ef {P:Program} {w:World} {H:Hp} (h:Heap) (hb:sysModules<h.objs.size):dI P w H (h.push { cls:=.type "dict",data:=.dict #[] }) h.objs.size (.dK []):=
 ⟨Nat.zero_le _,beq_eq_false_iff_ne.mpr (Ne.symm (Nat.ne_of_lt hb)),[],.nil,Heap.DictOf.new h⟩
end
section
variable {X:Cx} {pos:Pos}
end
def zH:List (TE×TE)->St->Hp->(List (V×V)->Hp->Prop)->Prop
 | [],_,H,Q=>Q [] H
 | (tk,tv) :: r,σ,H,Q=>tk σ H fun x H1=>tv σ H1 fun y H2=>zH r σ H2 fun ps H3=>Q ((x,y) :: ps) H3
abbrev VV:List (V×V)->List (Value×Value)->Prop:=Paired fun p q=>RelV p.1 q.1∧RelV p.2 q.2
def PPs (X:Cx) (pos:Pos) (keys:List (Option Expr)) (values:List Expr) (trs:List (TE×TE)):Prop:=
 ∀ (pins:List (Addr×Obj)) (s:Shared) (σ : St) (H:Hp) (Q:List (V×V)->Hp->Prop),Inv X pins σ H s->zH trs σ H Q ->
  wpAny (model X.prog X.w) X.A (evalPairs (pairTrees keys values X.env pos)) (fun vs s'=>∃ ps H',Inv X pins σ H' s'∧VV ps vs∧Q ps H') X.xe s
theorem IV {X:Cx} {pos:Pos}:PPs X pos [] [] []:=fun pins s σ H Q I h=>pairTrees_nil_walk ⟨[],H,I,.nil,h⟩
theorem Gs {X:Cx} {pos:Pos} {k v:Expr} {ks:List (Option Expr)} {vs:List Expr} {tk tv:TE} {trs:List (TE×TE)} (hk:PE X k tk) (hv:PE X v tv) (hr:PPs X pos ks vs trs) :
  PPs X pos (some k :: ks) (v :: vs) ((tk,tv) :: trs):=fun pins s σ H Q I h=>
 pairTrees_cons_walk (thn (hk pins s σ H _ I h) fun u s1 ⟨x,H1,I1,rx,q1⟩=>thn (hv pins s1 σ H1 _ I1 q1) fun w2 s2 ⟨y,H2,I2,ry,q2⟩=>
  thn (hr pins s2 σ H2 _ I2 q2) fun ws s3 ⟨ps,H3,I3,rel,q3⟩=>⟨(x,y) :: ps,H3,I3,.cons ⟨rx,ry⟩ rel,q3⟩)
def rZ (kvs more:List (Key×V)):List (Key×V):=more.foldl (fun acc kv=>putK acc kv.1 kv.2) kvs
theorem KV.merge:∀ {more:List (Key×V)} {rs:List (Key×Value)} {kvs:List (Key×V)} {vs:List (Key×Value)},KV more rs->KV kvs vs->KV (rZ kvs more) (merged vs rs):=by
 intro more rs kvs vs r
 unfold KV at r
 induction r generalizing kvs vs with
 | nil=>intro q;exact q
 | @cons p q ps qs h t ih=>
  intro r0
  have e:KV (putK kvs p.1 p.2) (stored vs q.1 q.2):=by
   have:=r0.put p.1 h.2
   rw [← h.1];exact this
  exact ih e
theorem mq:∀ (more kvs:List (Key×V)),(rZ kvs more).length<=kvs.length+more.length
 | [],kvs=>by show kvs.length<=kvs.length+0;omega
 | p :: r,kvs=>by
  have h1:=mq r (putK kvs p.1 p.2)
  have h2:=qg kvs p.1 p.2
  show (rZ (putK kvs p.1 p.2) r).length<=_
  rw [List.length_cons];omega
theorem rn {P:Program} {w:World}:∀ {kvs:List (Key×V)} {ws:List (Value×Value)},VV (kvs.map fun kv=>(kV kv.1,kv.2)) ws -> ∃ rs,Carries (gH P w) ws rs∧KV kvs rs
 | [],_,r=>by rw [List.map_nil] at r;cases r;exact ⟨[],True.intro,.nil⟩
 | p :: kvs,_,r=>by
  rw [List.map_cons] at r
  cases r with
  | @cons a b as bs h t=>
   obtain ⟨rs,c,q⟩:=rn (P:=P) (w:=w) t
   obtain ⟨b1,b2⟩:=b
   exact ⟨(p.1,b2) :: rs,⟨Fl h.1,rfl,c⟩,.cons ⟨rfl,h.2⟩ q⟩
def Qk (trs:List (TE×TE)):TE:=fun σ H Q=>∀ p,H p=none->zH trs σ (upd H p (.dK [])) fun ps H2=>H2 p=some (.dK []) ∧ ∃ kvs:List (Key×V),ps=kvs.map (fun kv=>(kV kv.1,kv.2))∧kvs.length<=15∧Q (.ref p) (upd H2 p (.dK (rZ [] kvs)))
theorem Iv {X:Cx} {pos:Pos} {keys:List (Option Expr)} {values:List Expr} {trs:List (TE×TE)} (h:PPs X pos keys values trs) (hall:keys.all (·.isSome)=true) (hl:keys.length=values.length) (h0:keys≠[])
  (h15:keys.length<=15):PE X (.Dict keys values pos) (Qk trs):=by
 intro pins s σ H Q I q
 have hn:=I.hok.fresh (Nat.le_refl s.heap.objs.size)
 have I1:=I.laid (a:=s.heap.objs.size) (o:=.dK []) (h':=s.heap.push { cls:=.type "dict",data:=.dict #[] }) (t':=s.toks) (fun _ _ q=>Heap.get?_push_of_some _ q) (Nat.le_refl _) (Ef s.heap I.big)
 refine wpAny_Dict_walk (knd:=gH X.prog X.w) hall hl h0 h15 (thn (h pins _ σ _ _ I1 (q _ hn)) fun ws s2 ⟨ps,H2,I2,rel,e,kvs,ep,lk,q2⟩=>?_)
 subst ep
 obtain ⟨rs,c,rk⟩:=rn (P:=X.prog) (w:=X.w) rel
 obtain ⟨z,hd,vs0,r0,dd⟩:=Eh I2.hok e
 cases r0
 refine ⟨rs,c,dd,fun h' dd' hs=>⟨.ref s.heap.objs.size,_,?_,rfl,q2⟩⟩
 have hz:(rZ [] kvs).length<=sizeLine:=by
  have h1:=mq kvs []
  rw [List.length_nil] at h1
  rw [sizeLine_eq];omega
 have he:∃ q,h'.get? s.heap.objs.size=some q:=let ⟨q,_,_,hq,_⟩:=dd';⟨q,hq⟩
 exact zU I2 (by rw [e];exact True.intro) hs he (Eg hz hd (rk.merge .nil) dd')
section
variable {X:Cx}
theorem Ca:gq X (.builtin "len") (fun xs H Q=>∃ a kvs,xs=[V.ref a]∧H a=some (.dK kvs)∧Q (.int kvs.length) H):=by
 intro pins s σ H xs us Q I r h
 obtain ⟨a,kvs,rfl,ha,q⟩:=h
 obtain ⟨u,rfl,ru⟩:=vals1 r
 cases ru
 exact Oi I (.inl ha) fun t s' I'=>⟨.int kvs.length,H,I',⟨t,rfl⟩,q⟩
end
end L2
namespace L2
open PySem PySem.Spec PyProof.Rows
def D.key:D->Option Key
 | .int i=>some (.inl i)
 | .str x=>some (.inr x)
 | _=>none
def uZ (ks:List Key) (k:Key):Bool:=ks.any fun j=>decide (j=k)
def nZ (ks:List Key) (k:Key):List Key:=if uZ ks k=true then ks else ks++[k]
def my (ks:List Key) (ds:List D) (k:Key) (d:D):List D:=if uZ ks k=true then List.zipWith (fun j e=>if j=k then d else e) ks ds else ds++[d]
section
variable {K:PySem.W.Frag} {F:Addr->Prop} {H H':Hp} {v:V} {d:D} {L:List Addr} {k:Key}
theorem Rp.key (r:Rp K F H v d L) (e:d.key=some k):v=kV k∧L=[]:=by
 cases r <;> first | (cases e;exact ⟨rfl,rfl⟩) | cases e
theorem Rp.dct_at {o:Bool} {ks:List Key} {ds:List D} (r:Rp K F H v (.dct o ks ds) L):∃ a kvs M,v = .ref a∧H a=some (.dK kvs)∧ks=kvs.map (·.1)∧Rps K F H (kvs.map (·.2)) ds M∧(∀ b∈M,b∈L):=by
 cases r with
 | dfz h f r=>exact ⟨_,_,_,rfl,h,rfl,r,fun b h=>h⟩
 | down h r=>exact ⟨_,_,_,rfl,h,rfl,r,fun b h=>List.mem_cons_of_mem _ h⟩
theorem Ah (kvs:List (Key×V)) (k:Key):uZ (kvs.map (·.1)) k=(vY kvs k).isSome:=by
 rw [← tK];unfold uZ;rw [List.any_map];rfl
theorem Bk (kvs:List (Key×V)) (k:Key):(kvs.any fun kv=>decide (kv.1=k))=uZ (kvs.map (·.1)) k:=by rw [Ah,tK]
theorem Gy (kvs:List (Key×V)) (k:Key) (v:V):(putK kvs k v).map (·.1)=nZ (kvs.map (·.1)) k:=by
 unfold putK nZ
 rw [Bk]
 split
 ·rw [List.map_map]
  apply List.map_congr_left
  intro p _
  show (if p.1=k then (p.1,v) else p).1=p.1
  split <;> rfl
 ·rw [List.map_append];rfl
theorem Bl {vs:List V} {v:V} (r0:Rp K F H v d []):∀ {kvs:List (Key×V)} {ds:List D},Rps K F H (kvs.map (·.2)) ds []->Rps K F H ((kvs.map fun kv=>if kv.1=k then (kv.1,v) else kv).map (·.2)) (List.zipWith (fun j e=>if j=k then d else e) (kvs.map (·.1)) ds) []
 | [],ds,r=>by cases r;exact .nil
 | p :: kvs,ds,r=>by
  rw [List.map_cons] at r
  generalize hL:([]:List Addr)=L0 at r
  cases r with
  | @cons _ _ e es L M r rs=>
   obtain ⟨rfl,rfl⟩:=List.append_eq_nil_iff.mp hL.symm
   rw [List.map_cons,List.map_cons,List.map_cons,List.zipWith_cons_cons]
   refine .cons (L:=[]) (M:=[]) ?_ (Bl (vs:=vs) r0 rs)
   by_cases c:p.1=k
   ·rw [if_pos c,if_pos c];exact r0
   ·rw [if_neg c,if_neg c];exact r
theorem Jf {kvs:List (Key×V)} {ds:List D} {v:V} (r0:Rp K F H v d []) (r:Rps K F H (kvs.map (·.2)) ds []):Rps K F H ((putK kvs k v).map (·.2)) (my (kvs.map (·.1)) ds k d) []:=by
 unfold putK my
 rw [Bk]
 split
 ·exact Bl (vs:=[]) r0 r
 ·rw [List.map_append];exact Rps.append (L:=[]) (M:=[]) r (.cons (L:=[]) (M:=[]) r0 .nil)
end
section
variable {X:Cx} {K:PySem.W.Frag}
def dIn:List D->Option D
 | [d,.dct _ ks _]=>d.key.map fun k=>.bl (uZ ks k)
 | _=>none
def Pb:R2:=fun y x H Q=>∃ a kvs k,x = .ref a∧H a=some (.dK kvs)∧y=kV k∧Q (.bl (vY kvs k).isSome) H
theorem Ge:OpR X (compareOp .In) Pb:=by
 intro pins s σ H x y v u Q I rx ry h
 obtain ⟨a,kvs,k,rfl,e,rfl,q⟩:=h
 cases ry
 obtain ⟨z,hd,vs,rel,dd⟩:=Eh I.hok e
 refine wpAny_in_of (Fl rx) hd dd.mapOf ?_
 rw [← (rel.val k).isSome_eq]
 exact ⟨.bl _,H,I.tok _,rfl,q⟩
theorem wN:cz K (r2 Pb) dIn:=by
 intro F H vs ds f Q r e q
 unfold dIn at e
 split at e
 ·obtain ⟨x,y,L,M,rfl,r1,r2⟩:=r.two
  obtain ⟨k,e1,e2⟩:=Option.map_eq_some_iff.mp e
  cases e2
  obtain ⟨a,kvs,N,rfl,ha,rfl,_,_⟩:=r2.dct_at
  exact ⟨_,_,rfl,a,kvs,k,rfl,ha,(r1.key e1).1,by rw [← Ah];exact q _ _ _ (.ofFlat rfl)⟩
 ·cases e
def wI:List D->Option D
 | [.dct _ ks _]=>some (.int ks.length)
 | _=>none
theorem Cp:cz K (fun xs H Q=>∃ a kvs,xs=[V.ref a]∧H a=some (.dK kvs)∧Q (.int kvs.length) H) wI:=by
 intro F H vs ds f Q r e q
 unfold wI at e
 split at e
 ·cases e
  obtain ⟨x,L,rfl,r1⟩:=r.one
  obtain ⟨a,kvs,N,rfl,ha,rfl,_,_⟩:=r1.dct_at
  exact ⟨a,kvs,rfl,ha,by rw [List.length_map] at q;exact q _ _ _ (.ofFlat rfl)⟩
 ·cases e
end
section
variable {X:Cx} {pos:Pos}
theorem WS.putO {K:PySem.W.Frag} {F:Addr->Prop} {H:Hp} {σ : St} {ρ : En} {Ls:Nat->List Addr} {R:List Addr} {p:Addr} {o:OL} (hn:H p=none) (w:WS K F H σ ρ Ls R):WS K F (upd H p o.ho) σ ρ Ls (p :: R):=
 let w':=w.laid (o:=o.ho) hn
 { w' with
   rd:=List.nodup_cons.mpr ⟨fun z=>(by obtain ⟨ys,e⟩:=w.tr p z;rw [hn] at e;cases e),w.rd⟩
   rj:=fun i a z q=>by
    rcases List.mem_cons.mp q with q | q
    ·subst q;obtain ⟨ys,e⟩:=w.own z;rw [hn] at e;cases e
    ·exact w.rj i a z q
   nr:=fun a z q=>by
    rcases List.mem_cons.mp z with z | z
    ·subst z;exact w.ft a q hn
    ·exact w.nr a z q
   tr:=fun a z=>by
    rcases List.mem_cons.mp z with z | z
    ·subst z;exact ⟨o,cD⟩
    ·exact w'.tr a z }
theorem Jm {i:Int} {b:Bool} {j1 j2:Nat} {p1 p2:Pos}:SE X (.Dict [some (.Constant (.int i) j1 p1)] [.Constant (.bool b) j2 p2] pos) (sC (.dct true [.inl i] [.bl b])):=
 (Iv (Gs Gn JX IV) rfl rfl (by simp) (by simp)).wk fun σ H Q h=>by
  obtain ⟨F,ρ,Ls,R,Qd,w,q,k⟩:=h
  intro p hn
  refine ⟨cD,[(.inl i,.bl b)],rfl,by simp,?_⟩
  rw [JD]
  refine k (.ref p) _ (.dct true [.inl i] [.bl b]) ρ F Ls [p] (.down (kvs:=[(.inl i,.bl b)]) cD (.cons (L:=[]) (M:=[]) (.bl b) .nil)) (w.putO (o:=.d [(.inl i,.bl b)]) hn) ((Step.laid hn).more fun a ha=>?_) q
  cases List.mem_singleton.mp ha
  exact .inr hn
end
def mz (i:Nat) (sv:bA) (sk:bA):cP:=fun ρ E=>sv ρ fun dv ρ1=>(∃ d0,ρ1[i]? = some (some d0))∧sk ρ1 fun dk ρ2=>∃ k ks ds,dk.key=some k ∧ ρ2[i]? = some (some (.dct true ks ds))∧D.shs ds=true∧dv.sh=true∧ks.length<sizeLine ∧
 E.nx (ρ2.set i (some (.dct true (nZ ks k) (my ks ds k dv))))
section
variable {X:Cx} {kp:Nat->Bool}
theorem JC {i:Nat} {sv sk:bA} {D0:Ends} {σ : St} {H:Hp} (h:Nx X.K kp (mz i sv sk) D0 σ H) :
  iI X.K sv σ H fun v H1=>GZ i σ H1 fun x H2=>iI X.K sk σ H2 fun y H3=>∃ a kvs k,x = .ref a∧H3 a=some (.dK kvs)∧y=kV k∧kvs.length<sizeLine∧D0.nx σ (upd H3 a (.dK (putK kvs k v))):=by
 obtain ⟨F,ρ,Ls,R,E,w,q,pe⟩:=h
 refine ⟨F,ρ,Ls,R,_,w,q,fun vv H1 dv ρ1 F1 Ls1 Ld1 r1 w1 s1 q1=>?_⟩
 obtain ⟨⟨d0,e0⟩,q1⟩:=q1
 obtain ⟨v0,h0,_⟩:=w1.sl i d0 e0
 refine ⟨v0,h0,F1,ρ1,Ls1,Ld1++R,_,w1,q1,fun vk H2 dk ρ2 F2 Ls2 Ld2 r2 w2 s2 q2=>?_⟩
 obtain ⟨k,ks,ds,ek,e2,hds,hdv,hlen,q2⟩:=q2
 obtain ⟨rfl,rfl⟩:=r2.key ek
 have hnil:=r1.sh_nil hdv
 subst hnil
 have r1':=r1.step w1 s2 (fun a ha=>absurd ha (by simp))
 obtain ⟨v2,hv2,rv2⟩:=w2.sl i _ e2
 rw [h0] at hv2
 cases hv2
 have nd:=w2.nd i
 generalize hL2:Ls2 i=L2' at rv2 nd
 cases rv2 with
 | @down a kvs _ L0 ha rs=>
  have hnil:=rs.sh_nil hds
  subst hnil
  have hF:¬ F2 a:=w2.nf i a (by rw [hL2];exact List.mem_cons_self)
  rw [List.length_map] at hlen
  refine ⟨a,kvs,k,rfl,ha,rfl,hlen,?_⟩
  have hk:∀ a' o,a'≠a->H2 a'=some o->upd H2 a (.dK (putK kvs k vv)) a'=some o:=fun a' o z e=>by rw [bG z];exact e
  have keepR:∀ {v:V} {d:D} {L:List Addr},Rp X.K F2 H2 v d L->a ∉ L->Rp X.K F2 (upd H2 a (.dK (putK kvs k vv))) v d L:=fun r hL=>
   r.mono (fun _ h=>h) (fun a' o e st=>hk a' o (fun z=>by subst z;rw [ha] at e;cases e;exact st) e) (fun a' o f e=>hk a' o (fun z=>by subst z;exact hF f) e) fun a' ha' o e=>hk a' o (fun z=>by subst z;exact hL ha') e
  have nr:Rps X.K F2 (upd H2 a (.dK (putK kvs k vv))) ((putK kvs k vv).map (·.2)) (my (kvs.map (·.1)) ds k dv) []:=
   (Jf r1' rs).mono (fun _ h=>h) (fun a' o e st=>hk a' o (fun z=>by subst z;rw [ha] at e;cases e;exact st) e) (fun a' o f e=>hk a' o (fun z=>by subst z;exact hF f) e) fun a' ha' o e=>absurd ha' (by simp)
  have hi:i < ρ2.length:=(List.getElem?_eq_some_iff.mp e2).1
  refine pe.nx σ _ (ρ2.set i (some (.dct true (nZ (kvs.map (·.1)) k) (my (kvs.map (·.1)) ds k dv)))) F2 Ls2 ?_ ((s1.trans s2).trans ⟨fun a' o e z=>hk a' o (fun c=>z i (by rw [hL2,c];exact List.mem_cons_self)) e,fun _ h=>h,fun j a' h=>.inl ⟨j,h⟩,fun a' h=>absurd h (by simp)⟩) (fun _ _=>rfl) q2
  have w3:WS X.K F2 H2 σ ρ2 Ls2 R:=w2
  exact {
   len:=by rw [List.length_set];exact w3.len
   sl:=fun l d e=>by
    by_cases c:l=i
    ·subst c
     rw [List.getElem?_set_self hi] at e
     cases e
     refine ⟨_,h0,?_⟩
     rw [hL2,← Gy kvs k vv]
     exact .down cD nr
    ·rw [List.getElem?_set_ne (Ne.symm c)] at e
     obtain ⟨v,hv,r⟩:=w3.sl l d e
     exact ⟨v,hv,keepR r fun z=>c (w3.dj l i a z (by rw [hL2];exact List.mem_cons_self))⟩
   em:=fun l hj=>w3.em l fun d e=>by
    by_cases c:l=i
    ·subst c
     exact hj _ (List.getElem?_set_self hi)
    ·exact hj d (by rw [List.getElem?_set_ne (Ne.symm c)];exact e)
   nd:=w3.nd
   dj:=w3.dj
   rd:=w3.rd
   rj:=w3.rj
   nf:=w3.nf
   nr:=w3.nr
   tr:=fun a' h=>by
    obtain ⟨xs,e⟩:=w3.tr a' h
    exact ⟨xs,hk a' _ (fun z=>w3.rj i a (by rw [hL2];exact List.mem_cons_self) (by rw [← z];exact h)) e⟩
   ft:=fun a' h=>by
    by_cases c:a'=a
    ·rw [c,cD];simp
    ·rw [bG c];exact w3.ft a' h }
theorem By {i:Nat} {x:Str} {ek ev:Expr} {sk sv:bA} {p0 pos' pos:Pos} (hx:PE X (.Name x p0) (GZ i)) (hk:SE X ek sk) (hv:SE X ev sv) (hs:swapsWith ev (some (.Subscript (.Name x p0) ek pos')) pos.line X.env=pure false:=by rfl) :
  SS X kp (.Assign [.Subscript (.Name x p0) ek pos'] ev pos) (mz i sv sk):=by
 intro pins s σ H D I h
 refine wpAny_Assign_Subscript (thn (hv pins s σ H _ I (JC h)) fun r s1 ⟨v,H1,I1,rv,q1⟩=>thn (hx pins s1 σ H1 _ I1 q1) fun u s2 ⟨x,H2,I2,rx,q2⟩=>thn (hk pins s2 σ H2 _ I2 q2) fun iv s3 ⟨y,H3,I3,ry,a,kvs,k,ex,e,ey,hl,q3⟩=>?_) hs
 subst ex ey
 cases rx
 obtain ⟨z,hd,vs,rel,dd⟩:=Eh I3.hok e
 have hz:vs.length<=sizeLine:=by rw [← rel.length];exact z
 have hl':(putK kvs k v).length<=sizeLine:=by have:=qg kvs k v;omega
 refine wpAny_setItem_pairs (hsz:=hz) (Fl ry) dd fun h' dd' hs=>⟨σ,_,?_,q3⟩
 have he:∃ q,h'.get? a=some q:=let ⟨q,_,_,hq,_⟩:=dd';⟨q,hq⟩
 exact zU I3 (by rw [e];exact True.intro) hs he (Eg hl' hd (rel.put k rv) dd')
end
end L2
namespace HT
open PySem PySem.Spec PyProof.Rows L2
section
variable {prog:Program} {w:World} {A:Around} {E:Value->Shared->Prop} {s:Shared}
theorem pP {sl:Addr} {t:Tok} {n:Nat} {Q:Int×Int×Nat->Shared->Prop} (hs:s.heap.IsSliceOf sl .none .none (.int (-1) t))
  (h:Q ((n:Int) - 1,-1,n) s):wpAny (model prog w) A (Builtin.Slice.sliceApplied (.ref sl) (pure (n:Int))) Q E s:=by
 obtain ⟨os,hos,hcs,hds⟩:=id hs
 unfold Builtin.Slice.sliceApplied Builtin.Slice.sliceFields
 refine wpAny_bind (wpAny_bind (wpAny_field hos hds (x:=.none) rfl (wpAny_bind (wpAny_field hos hds (x:=.none) rfl (wpAny_bind (wpAny_field hos hds (x:=.int (-1) t) rfl (wpAny_pure ?_)))))))
 refine wpAny_bind (jl (.int (-1) t) ?_)
 show wpAny _ _ (if ((-1:Int)==0)=true then _ else _) _ _ s
 rw [if_neg (by decide)]
 refine wpAny_bind (jl .none (wpAny_bind (jl .none (wpAny_bind (wpAny_pure ?_)))))
 show wpAny _ _ (pure ((n:Int) - 1,(-1:Int),Builtin.Slice.slicePlaces ((n:Int) - 1) (-1) (-1))) _ _ s
 have e:Builtin.Slice.slicePlaces ((n:Int) - 1) (-1) (-1)=n:=by
  unfold Builtin.Slice.slicePlaces
  rw [if_neg (by decide)]
  by_cases c:n=0
  ·subst c;rfl
  ·rw [if_pos (by omega)]
   show (((n:Int) - 1 - -1 - 1) / 1+1).toNat=n
   rw [Int.ediv_one];omega
 rw [e]
 exact wpAny_pure h
theorem Dl (xs:Array Value):((List.range xs.size).filterMap fun (m:Nat)=>xs[((xs.size:Int) - 1+(m:Int) * -1).toNat]?).toArray=xs.toList.reverse.toArray:=by
 rw [← W.krv_pick]
 unfold slicePick
 rw [W.krv_bounds,W.krv_sliceRange,List.filterMap_map]
 congr 2
 funext m
 show xs[((xs.size:Int) - 1+(m:Int) * -1).toNat]? = xs[xs.size - 1 - m]?
 congr 1
 omega
theorem nQ {t sl:Addr} {tk:Tok} {items:Array Value} {Q:Value->Shared->Prop} (ht:IsTup s.heap t items) (hs:s.heap.IsSliceOf sl .none .none (.int (-1) tk))
  (h:Q (.ref s.heap.objs.size) { s with heap:=s.heap.push { cls:=.type "tuple",data:=.seq items.toList.reverse.toArray } })
  (hsz:items.size<=sizeLine):wpAny (model prog w) A (getItem (.ref t) (.ref sl)) Q E s:=by
 have htake:sizeOk (.seq items.toList.reverse.toArray):=by
  show items.toList.reverse.toArray.size<=sizeLine
  rw [List.size_toArray,List.length_reverse,Array.length_toList]
  exact hsz
 obtain ⟨os,hos,hcs,hds⟩:=id hs
 have hTs:s.TypeIs (.ref sl) "slice":=⟨os,hos,hcs⟩
 unfold getItem
 try with_reducible refine wpAny_holding ?_
 first | refine wpAny_bind (wpAny_pure ?_) | skip
 refine wpAny_bind (wpAny_sequenceKey ht.typeIs (by decide) ?_)
 refine wpAny_bind (wpAny_callSpecial?_slot (name:=Str.ofString "__getitem__") ht.typeIs PyProof.Rows.slot_tuple_getitem
  (wpAny_call_entry PyProof.Rows.slot_tuple_getitem ht.typeIs entry_tuple_getitem ?_ (args_tuple_getitem _ _)))
 show wpAny _ _ (Builtin.Tuple.tupleItemsOf (.ref t) >>= _) _ _ s
 refine wpAny_bind (tupleItemsOf_ ht ?_)
 refine wpAny_bind (wpAny_typeOf hTs ?_)
 rw [if_pos (by decide)]
 refine wpAny_bind (pP hs ?_)
 have hno:¬ ((((items.size:Int) - 1)==0&&(-1:Int)==1&&items.size==items.size)=true):=by simp
 show wpAny _ _ (if (((items.size:Int) - 1)==0&&(-1:Int)==1&&items.size==items.size)=true then _ else _) _ _ s
 rw [if_neg hno,Dl]
 first
  | exact wpAny_bind (m:=Builtin.Tuple.tupleExact _) (wpAny_newObj_type (wpAny_pure ⟨_,rfl,wpAny_pure h⟩) htake)
  | exact wpAny_bind (m:=Builtin.Tuple.tupleExact _) (wpAny_newObj_type (wpAny_bind (wpAny_pure (wpAny_pure ⟨_,rfl,wpAny_pure h⟩))) htake)
  | exact wpAny_bind (wpAny_bind (m:=Builtin.Tuple.tupleExact _) (wpAny_newObj_type (wpAny_pure (wpAny_pure ⟨_,rfl,wpAny_pure h⟩)) htake))
  | exact wpAny_bind (wpAny_bind (m:=Builtin.Tuple.tupleExact _) (wpAny_newObj_type (wpAny_pure ⟨_,rfl,wpAny_pure h⟩) htake))
end
end HT
namespace L2
open PySem PySem.Spec PyProof.Rows
theorem Vals.rev:∀ {xs:List V} {us:List Value},Vals xs us->Vals xs.reverse us.reverse
 | _,_,.nil=>.nil
 | _,_,.cons r t=>by
  rw [List.reverse_cons,List.reverse_cons]
  exact (Vals.rev t).append (.cons r .nil)
def Qp (K:PySem.W.Frag) (te ti:TE):TE:=fun σ H Q=>te σ H fun x H1=>ti σ H1 fun z H2=>z = .int (-1) ∧ ∃ a xs,x = .ref a∧SqT K H2 a xs ∧ ∀ p,H2 p=none->Q (.ref p) (upd H2 p (.tup xs.reverse))
theorem Iw {X:Cx} {e idx:Expr} {te ti:TE} {pos p2:Pos} (he:PE X e te) (hi:PE X idx ti):PE X (.Subscript e (.Slice none none (some idx) p2) pos) (Qp X.K te ti):=by
 intro pins s σ H Q I h
 refine Subscript_ (thn (he pins s σ H _ I h) fun v s1 ⟨x,H1,I1,r1,q1⟩=>?_)
 refine wpAny_Slice ?_
 rw [evalPart_none]
 refine wpAny_pure (wpAny_pure ?_)
 rw [evalPart_some]
 refine thn (hi pins s1 σ H1 _ I1 q1) fun vz s3 ⟨z,H3,I3,rz,q3⟩=>?_
 obtain ⟨rfl,a,xs,rfl,hq,q⟩:=q3
 obtain ⟨t,rfl⟩:=rz
 cases r1
 have I4:Inv X pins σ H3 { s3 with heap:=s3.heap.push { cls:=.type "slice",data:=.fields #[.none,.none,.int (-1) t] } }:=I3.kept (t':=s3.toks) fun b ob q=>Heap.get?_push_of_some _ q
 obtain ⟨its,r,ht,hz⟩:=I4.tuple hq
 have hlen:=r.length
 show wpAny (model X.prog X.w) X.A (subscriptTail e (.Slice none none (some idx) p2) (.ref a) (.ref s3.heap.objs.size)) (EP X pins σ Q) X.xe { s3 with heap:=s3.heap.push { cls:=.type "slice",data:=.fields #[.none,.none,.int (-1) t] } }
 refine tail_any (ops:=[.ref a,.ref s3.heap.objs.size]) ht.typeIs PyProof.Rows.slot_tuple_getitem.lookup ?_ (by with_unfolding_all rfl)
 refine HT.nQ ht (Heap.IsSliceOf.new ..) ?_ (by rw [List.size_toArray,← hlen];exact hz)
 refine ⟨.ref _,_,I4.laid (t':=s3.toks) (o:=.tup xs.reverse) (fun b ob q=>Heap.get?_push_of_some _ q) (Nat.le_refl _) ⟨by rw [List.length_reverse];exact hz,its.reverse,r.rev,IsTup.new _ _⟩,rfl,q _ (I4.hok.fresh (Nat.le_refl _))⟩
theorem Rps.rev0 {K:PySem.W.Frag} {F:Addr->Prop} {H:Hp}:∀ {vs:List V} {ds:List D},Rps K F H vs ds []->Rps K F H vs.reverse ds.reverse []:=by
 intro vs
 induction vs with
 | nil=>intro ds r;cases r;exact .nil
 | cons v vs ih=>
  intro ds r
  generalize hL:([]:List Addr)=L0 at r
  cases r with
  | cons r rs=>
   obtain ⟨rfl,rfl⟩:=List.append_eq_nil_iff.mp hL.symm
   rw [List.reverse_cons,List.reverse_cons]
   exact Rps.append (L:=[]) (M:=[]) (ih rs) (.cons (L:=[]) (M:=[]) r .nil)
def uw:List D->Option D
 | [.tup ds,.int i]=>if (D.shs ds&&(i == -1))=true then some (.tup ds.reverse) else none
 | _=>none
theorem Cq {K:PySem.W.Frag}:cz K (fun vs H Q=>∃ x z,vs=[x,z]∧z = .int (-1) ∧ ∃ a xs,x = .ref a∧SqT K H a xs ∧ ∀ p,H p=none->Q (.ref p) (upd H p (.tup xs.reverse))) uw:=by
 intro F H vs ds f Q r e q
 unfold uw at e
 split at e
 ·split at e
  ·rename_i hs
   cases e
   rw [Bool.and_eq_true,beq_iff_eq] at hs
   obtain ⟨x,y,L,M,rfl,r1,r2⟩:=r.two
   obtain ⟨a,vs,rfl,ha,ra⟩:=r1.tup_at
   cases ra.sh_nil hs.1
   have e2:=r2.isInt
   rw [hs.2] at e2
   exact ⟨_,_,rfl,e2,a,vs,rfl,ha,fun p hp=>q _ _ _ (.tuple hp ra.rev0)⟩
  ·cases e
 ·cases e
theorem Jo {X:Cx} {e idx:Expr} {o oi:Opd} {pos p2:Pos} (he:SO X e o) (hi:SO X idx oi):SE X (.Subscript e (.Slice none none (some idx) p2) pos) (sDo uw [o,oi]):=
 (Iw he hi).wk fun σ H Q h=>by
  have t:=iH Cq h
  refine iC (fun x H1 t1=>?_) (dm t)
  refine iC (fun z H2 t2=>?_) (dm t1)
  obtain ⟨F,ρ,Ls,R,Qd,w,q,k⟩:=t2
  obtain ⟨x',z',e,e2,rest⟩:=k [] H2 [] ρ F Ls [] .nil w Step.refl q
  cases e
  exact ⟨e2,rest⟩
def uv:List D->Option D
 | [.bl b,.int j]=>some (.int ((if b=true then 1 else 0)+j))
 | [.int i,.int j]=>some (.int (i+j))
 | _=>none
def Gz:R2:=fun x y H Q=>(∃ b j,x = .bl b∧y = .int j∧Q (.int ((if b=true then 1 else 0)+j)) H)
theorem Ik {X:Cx}:OpR X (binaryOp .Add) Gz:=by
 intro pins s σ H x y v u Q I rx ry h
 obtain ⟨b,j,rfl,rfl,q⟩:=h
 cases rx
 obtain ⟨t,rfl⟩:=ry
 exact PySem.IntBool.add_bool_int ⟨.int _,H,I.tok _,⟨_,rfl⟩,q⟩
theorem Gb {X:Cx}:OpR X (binaryOp .Add) (fun x y H Q=>Gz x y H Q∨rI0 (fun i j=>.int (i+j)) x y H Q):=Ik.or Ga
theorem Cm {K:PySem.W.Frag}:cz K (r2 (fun x y H Q=>Gz x y H Q∨rI0 (fun i j=>.int (i+j)) x y H Q)) uv:=by
 intro F H vs ds f Q r e q
 unfold uv at e
 split at e
 ·cases e
  obtain ⟨x,y,L,M,rfl,r1,r2⟩:=r.two
  cases r1.isBl;cases r2.isInt
  exact ⟨_,_,rfl,.inl ⟨_,_,rfl,rfl,q _ _ _ (.ofFlat rfl)⟩⟩
 ·cases e
  obtain ⟨x,y,L,M,rfl,r1,r2⟩:=r.two
  cases r1.isInt;cases r2.isInt
  exact ⟨_,_,rfl,.inr ⟨_,_,rfl,rfl,q _ _ _ (.ofFlat rfl)⟩⟩
 ·cases e
end L2
namespace L2
open PySem PySem.Spec PyProof.Rows
def D.dctO:D->Option (List Key×List D)
 | .dct true ks ds=>some (ks,ds)
 | _=>none
theorem Ea {d:D} {ks:List Key} {ds:List D}:d.dctO=some (ks,ds)↔d = .dct true ks ds:=by
 cases d with
 | dct o ks' ds'=>cases o <;> simp [D.dctO]
 | _=>simp [D.dctO]
theorem zZ (ρ : En) (E:EndD) (i:Nat) (sv sk:bA):mz i sv sk ρ E=sv ρ fun dv ρ1=>aH (slot ρ1 i) fun _=>sk ρ1 fun dk ρ2=>aH dk.key fun k=>aH (slot ρ2 i) fun c=>aH c.dctO fun p=>
  dJ (D.shs p.2=true) (dJ (dv.sh=true) (dJ (p.1.length<sizeLine) (E.nx (ρ2.set i (some (.dct true (nZ p.1 k) (my p.1 p.2 k dv))))))):=by
 unfold mz
 congr 1
 funext dv ρ1
 have e:(fun (dk:D) (ρ2:En)=>∃ k ks ds,dk.key=some k ∧ ρ2[i]? = some (some (.dct true ks ds))∧D.shs ds=true∧dv.sh=true∧ks.length<sizeLine∧E.nx (ρ2.set i (some (.dct true (nZ ks k) (my ks ds k dv))))) =
   fun dk ρ2=>aH dk.key fun k=>aH (slot ρ2 i) fun c=>aH c.dctO fun p=>dJ (D.shs p.2=true) (dJ (dv.sh=true) (dJ (p.1.length<sizeLine) (E.nx (ρ2.set i (some (.dct true (nZ p.1 k) (my p.1 p.2 k dv))))))):=by
  funext dk ρ2
  apply propext
  simp only [aH,dJ]
  constructor
  ·rintro ⟨k,ks,ds,h1,h2,h3,h4,h5,h6⟩
   exact ⟨k,h1,_,cg.mp h2,(ks,ds),rfl,h3,h4,h5,h6⟩
  ·rintro ⟨k,h1,c,h2,⟨ks,ds⟩,h3,h4,h5,h6,h7⟩
   exact ⟨k,ks,ds,h1,by rw [cg,h2,Ea.mp h3],h4,h5,h6,h7⟩
 rw [e]
 apply propext
 simp only [aH,cg]
 constructor
 ·rintro ⟨⟨d,h1⟩,h2⟩;exact ⟨d,h1,h2⟩
 ·rintro ⟨d,h1,h2⟩;exact ⟨⟨d,h1⟩,h2⟩
theorem Am (i:Int):D.key (.int i)=some (.inl i):=rfl
theorem JN (ks:List Key) (ds:List D):D.dctO (.dct true ks ds)=some (ks,ds):=rfl
theorem Og (o:Bool) (i:Int) (ks:List Key) (ds:List D):dIn [.int i,.dct o ks ds]=some (.bl (uZ ks (.inl i))):=rfl
theorem Kw (o:Bool) (ks:List Key) (ds:List D):wI [.dct o ks ds]=some (.int ks.length):=rfl
end L2
namespace Z
open PySem L2
def jg:cW:=fnS 1 0 false
 (bI (dG (aF 3 bM [.nam 0,.val (sC (.int 2)),.val (sC (.int 2))]) (dG (aF 3 aG [.val (bH 0 (.val (sC (.int 0)))),.val (sC (.int 1)),.val (sC (.int 20))]) (aF 3 aG [.val (bH 0 (.val (sC (.int 1)))),.val (sC (.int 0)),.val (sC (.int 99))]))))
def gP:cW:=fnS 1 0 false
 (aD (sIf (fu (bB (bU (.val (aF 3 bM [.nam 0,.val (sC (.int 1)),.val (sC (.int 2))])))) (bB (bU (.val (sDo mD [.val (gW (jn (cu 0)) 1 [] (gN 0) (jN) (aF 1 jg [.nam 0]))])))))
 (bI (sC (.bl false)))
 (bF))
 (bI (sDo dLe [.val (sDo dIx [.val (bH 0 (.val (sC (.int 0)))),.val (sC (.int 1))]),.val (sDo dIx [.val (bH 0 (.val (sDo oU [.val (sC (.int 1))]))),.val (sC (.int 1))])])))
def jY:cW:=fnS 2 8 false
 (aD (sIf (bB (bU (.val (aF 3 bM [.nam 0,.val (sC (.int 8)),.val (sC (.int 8))]))))
 (bI (sC (.bl false)))
 (bF))
 (aD (vN (gT [gN 2,gN 3,gN 4,gN 5,gN 6,gN 7,gN 8,gN 9]) (cu 0))
 (aD (sIf (fu (bB (bU (.val (aF 3 aG [.nam 2,.val (sC (.int 0)),.val (sDo jH [.nam 1,.val (sC (.int 1))])])))) (fu (bB (bU (.val (aF 3 aG [.nam 3,.val (sC (.int 0)),.val (sC (.int 20))])))) (bB (bU (.val (aF 3 aG [.nam 4,.val (sC (.int 0)),.val (sC (.int 99))]))))))
 (bI (sC (.bl false)))
 (bF))
 (aD (sIf (fu (bB (bU (.val (aF 1 gP [.nam 5])))) (bB (bU (.val (aF 3 aG [.nam 6,.val (sC (.int 0)),.val (sC (.int 99))])))))
 (bI (sC (.bl false)))
 (bF))
 (bI (dG (aF 3 aG [.nam 7,.val (sC (.int 1)),.val (sC (.int 2))]) (dG (aF 3 aG [.nam 8,.val (sC (.int 1)),.val (sC (.int 2))]) (sDo gC [.nam 9,.val (sC (.ty "bool"))]))))))))
def ir:cW:=fnS 2 5 false
 (aD (sIf (tB' (sDo yP [.nam 0,.val (sC .non)]))
 (bI (sC (.bl true)))
 (bF))
 (aD (sIf (bB (bU (.val (aF 3 bM [.nam 0,.val (sC (.int 5)),.val (sC (.int 5))]))))
 (bI (sC (.bl false)))
 (bF))
 (aD (vN (gT [gN 2,gN 3,gN 4,gN 5,gN 6]) (cu 0))
 (aD (sIf (fu (bB (bU (.val (aF 3 aG [.nam 2,.val (sC (.int 0)),.val (sDo jH [.nam 1,.val (sC (.int 1))])])))) (fu (bB (bU (.val (aF 3 aG [.nam 3,.val (sC (.int 1)),.val (sC (.int 2))])))) (bB (bU (.val (aF 3 aG [.nam 4,.val (sC (.int 0)),.nam 3]))))))
 (bI (sC (.bl false)))
 (bF))
 (bI (dG (aF 3 aG [.nam 5,.val (sC (.int 1)),.val (sC (.int 20))]) (aF 3 aG [.nam 6,.val (sC (.int 0)),.nam 5])))))))
def jX:cW:=fnS 2 3 false
 (aD (sIf (bB (bU (.val (aF 3 bM [.nam 0,.val (sC (.int 3)),.val (sC (.int 3))]))))
 (bI (sC (.bl false)))
 (bF))
 (aD (vN (gT [gN 2,gN 3,gN 4]) (cu 0))
 (bI (dG (aF 3 aG [.nam 2,.val (sC (.int 0)),.val (sDo jH [.nam 1,.val (sC (.int 1))])]) (dG (aF 3 aG [.nam 3,.val (sC (.int 0)),.val (sC (.int 30))]) (aF 3 aG [.nam 4,.val (sC (.int 0)),.val (sC (.int 100))]))))))
def iD:cW:=fnS 2 0 false
 (bI (dG (aF 3 bM [.nam 0,.val (sC (.int 0)),.val (sC (.int 3))]) (sDo mD [.val (gW (jn (cu 0)) 1 [1] (gN 0) (jN) (aF 2 jX [.nam 0,.nam 1]))])))
def gk:cW:=fnS 1 5 false
 (aD (sIf (bB (bU (.val (aF 3 bM [.nam 0,.val (sC (.int 4)),.val (sC (.int 4))]))))
 (bI (sC (.bl false)))
 (bF))
 (aD (vN (gT [gN 1,gN 2,gN 3,gN 4]) (cu 0))
 (aD (sIf (fu (bB (bU (.val (aF 1 lL [.nam 1])))) (fu (bB (bU (.val (aF 3 bM [.nam 2,.val (sC (.int 0)),.val (sC (.int 3))])))) (bB (bU (.val (aF 3 bM [.nam 4,.val (sC (.int 1)),.val (sC (.int 3))]))))))
 (bI (sC (.bl false)))
 (bF))
 (aD (bD 5 (bH 1 (.val (sC (.int 0)))))
 (aD (sIf (fu (bB (bU (.val (sDo mD [.val (gW (jn (cu 2)) 1 [5] (gN 0) (jN) (aF 2 jY [.nam 0,.nam 1]))])))) (bB (bU (.val (aF 2 ir [.nam 3,.nam 5])))))
 (bI (sC (.bl false)))
 (bF))
 (bI (sDo mD [.val (gW (jn (cu 4)) 1 [5] (gN 0) (jN) (aF 2 iD [.nam 0,.nam 1]))])))))))
def aJ:cW:=fnS 3 0 false
 (bI (dG (sDo gC [.nam 0,.val (sC (.ty "int"))]) (dG (yp (sDo gC [.nam 0,.val (sC (.ty "bool"))])) (lH dLe dLe (.nam 1) (.nam 0) (.nam 2)))))
def aP:cW:=fnS 3 0 false
 (bI (dG (sDo gC [.nam 0,.val (sC (.ty "tuple"))]) (lH dLe dLe (.nam 1) (.val (sDo jQ [.nam 0])) (.nam 2))))
def cU:cW:=fnS 2 0 false
 (aD (sIf (fu (bB (bU (.val (aF 3 aP [.nam 0,.val (sC (.int 4)),.val (sC (.int 4))])))) (bB (bU (.val (sDo mD [.val (gW (jn (lK (.nam 0) (.val (sC (.int 2))))) 1 [1] (gN 0) (jN) (aF 3 aJ [.nam 0,.val (sC (.int 0)),.val (sDo jH [.nam 1,.val (sC (.int 1))])]))])))))
 (bI (sC (.bl false)))
 (bF))
 (bI (dG (sDo dNe [.val (bH 0 (.val (sC (.int 0)))),.val (bH 0 (.val (sC (.int 1))))]) (dG (aF 3 aJ [.val (bH 0 (.val (sC (.int 2)))),.val (sC (.int 1)),.val (sC (.int 9))]) (aF 3 aJ [.val (bH 0 (.val (sC (.int 3)))),.val (sC (.int 0)),.val (sC (.int 99))])))))
def eQ:cW:=fnS 1 3 false
 (aD (sIf (fu (bB (bU (.val (aF 3 aP [.nam 0,.val (sC (.int 2)),.val (sC (.int 2))])))) (fu (bB (bU (.val (aF 3 aJ [.val (bH 0 (.val (sC (.int 0)))),.val (sC (.int 1)),.val (sC (.int 4))])))) (bB (bU (.val (aF 3 aP [.val (bH 0 (.val (sC (.int 1)))),.val (sC (.int 0)),.val (sC (.int 6))]))))))
 (bI (sC (.bl false)))
 (bF))
 (aD (sIf (bB (bU (.val (sDo mD [.val (gW (jn (bH 0 (.val (sC (.int 1))))) 1 [0] (gN 0) (jN) (aF 2 cU [.nam 0,.val (bH 1 (.val (sC (.int 0))))]))]))))
 (bI (sC (.bl false)))
 (bF))
 (aD (bD 1 (sC (.dct true [.inl 0] [.bl true])))
 (aD (gU (cG (.val (bH 0 (.val (sC (.int 0)))))) (gN 2)
 (gU (jn (bH 0 (.val (sC (.int 1))))) (gN 3)
 (sIf (fu (tB' (sDo dIn [.val (bH 3 (.val (sC (.int 0)))),.nam 1])) (tB' (sDo dIn [.val (bH 3 (.val (sC (.int 1)))),.nam 1])))
 (aD (mz 1 (sC (.bl true)) (bH 3 (.val (sC (.int 0)))))
 (mz 1 (sC (.bl true)) (bH 3 (.val (sC (.int 1))))))
 (bF))))
 (bI (sDo dEq [.val (sDo wI [.nam 1]),.val (bH 0 (.val (sC (.int 0))))]))))))
def eN:cW:=fnS 1 0 false
 (bI (dG (aF 3 aP [.nam 0,.val (sC (.int 2)),.val (sC (.int 2))]) (dG (aF 3 aJ [.val (bH 0 (.val (sC (.int 0)))),.val (sC (.int 1)),.val (sC (.int 20))]) (aF 3 aJ [.val (bH 0 (.val (sC (.int 1)))),.val (sC (.int 0)),.val (sC (.int 99))]))))
def fH:cW:=fnS 2 0 false
 (aD (sIf (fu (bB (bU (.val (aF 3 aP [.nam 0,.val (sC (.int 8)),.val (sC (.int 8))])))) (fu (bB (bU (.val (aF 3 aJ [.val (bH 0 (.val (sC (.int 0)))),.val (sC (.int 0)),.val (sDo jH [.nam 1,.val (sC (.int 1))])])))) (bB (bU (.val (aF 3 aJ [.val (bH 0 (.val (sC (.int 1)))),.val (sC (.int 0)),.val (sC (.int 20))]))))))
 (bI (sC (.bl false)))
 (bF))
 (aD (sIf (fu (bB (bU (.val (aF 3 aJ [.val (bH 0 (.val (sC (.int 2)))),.val (sC (.int 0)),.val (sC (.int 99))])))) (fu (bB (bU (.val (aF 3 aP [.val (bH 0 (.val (sC (.int 3)))),.val (sC (.int 1)),.val (sC (.int 2))])))) (bB (bU (.val (aF 3 aJ [.val (bH 0 (.val (sC (.int 4)))),.val (sC (.int 0)),.val (sC (.int 99))]))))))
 (bI (sC (.bl false)))
 (bF))
 (aD (sIf (fu (bB (bU (.val (sDo mD [.val (gW (jn (bH 0 (.val (sC (.int 3))))) 1 [] (gN 0) (jN) (aF 1 eN [.nam 0]))])))) (tB' (sDo dGt [.val (sDo dIx [.val (sDo dIx [.val (bH 0 (.val (sC (.int 3)))),.val (sC (.int 0))]),.val (sC (.int 1))]),.val (sDo dIx [.val (sDo dIx [.val (bH 0 (.val (sC (.int 3)))),.val (sDo oU [.val (sC (.int 1))])]),.val (sC (.int 1))])])))
 (bI (sC (.bl false)))
 (bF))
 (bI (dG (aF 3 aJ [.val (bH 0 (.val (sC (.int 5)))),.val (sC (.int 1)),.val (sC (.int 2))]) (dG (aF 3 aJ [.val (bH 0 (.val (sC (.int 6)))),.val (sC (.int 1)),.val (sC (.int 2))]) (sDo gC [.val (bH 0 (.val (sC (.int 7)))),.val (sC (.ty "bool"))])))))))
def cZ:cW:=fnS 2 0 false
 (aD (sIf (tB' (sDo yP [.nam 0,.val (sC .non)]))
 (bI (sC (.bl true)))
 (bF))
 (aD (sIf (fu (bB (bU (.val (aF 3 aP [.nam 0,.val (sC (.int 5)),.val (sC (.int 5))])))) (fu (bB (bU (.val (aF 3 aJ [.val (bH 0 (.val (sC (.int 0)))),.val (sC (.int 0)),.val (sDo jH [.nam 1,.val (sC (.int 1))])])))) (bB (bU (.val (aF 3 aJ [.val (bH 0 (.val (sC (.int 1)))),.val (sC (.int 1)),.val (sC (.int 2))]))))))
 (bI (sC (.bl false)))
 (bF))
 (bI (dG (aF 3 aJ [.val (bH 0 (.val (sC (.int 2)))),.val (sC (.int 0)),.val (bH 0 (.val (sC (.int 1))))]) (dG (aF 3 aJ [.val (bH 0 (.val (sC (.int 3)))),.val (sC (.int 1)),.val (sC (.int 20))]) (aF 3 aJ [.val (bH 0 (.val (sC (.int 4)))),.val (sC (.int 0)),.val (bH 0 (.val (sC (.int 3))))]))))))
def fG:cW:=fnS 2 0 false
 (aD (sIf (fu (bB (bU (.val (aF 3 aP [.nam 0,.val (sC (.int 3)),.val (sC (.int 3))])))) (bB (bU (.val (aF 3 aJ [.val (bH 0 (.val (sC (.int 0)))),.val (sC (.int 0)),.val (sDo jH [.nam 1,.val (sC (.int 1))])])))))
 (bI (sC (.bl false)))
 (bF))
 (bI (dG (aF 3 aJ [.val (bH 0 (.val (sC (.int 1)))),.val (sC (.int 0)),.val (sC (.int 30))]) (aF 3 aJ [.val (bH 0 (.val (sC (.int 2)))),.val (sC (.int 0)),.val (sC (.int 100))]))))
def bY:cW:=fnS 1 2 false
 (aD (sIf (fu (bB (bU (.val (aF 3 aP [.nam 0,.val (sC (.int 4)),.val (sC (.int 4))])))) (bB (bU (.val (aF 1 eQ [.val (bH 0 (.val (sC (.int 0))))])))))
 (bI (sC (.bl false)))
 (bF))
 (aD (bD 1 (sDo dIx [.val (bH 0 (.val (sC (.int 0)))),.val (sC (.int 0))]))
 (aD (sIf (fu (bB (bU (.val (aF 3 aP [.val (bH 0 (.val (sC (.int 1)))),.val (sC (.int 0)),.val (sC (.int 3))])))) (bB (bU (.val (sDo mD [.val (gW (jn (bH 0 (.val (sC (.int 1))))) 1 [1] (gN 0) (jN) (aF 2 fH [.nam 0,.nam 1]))])))))
 (bI (sC (.bl false)))
 (bF))
 (aD (sIf (fu (bB (bU (.val (aF 2 cZ [.val (bH 0 (.val (sC (.int 2)))),.nam 1])))) (bB (bU (.val (aF 3 aP [.val (bH 0 (.val (sC (.int 3)))),.val (sC (.int 1)),.val (sC (.int 3))])))))
 (bI (sC (.bl false)))
 (bF))
 (aD (gU (jn (bH 0 (.val (sC (.int 3))))) (gN 2)
 (sIf (fu (bB (bU (.val (aF 3 aP [.nam 2,.val (sC (.int 0)),.val (sC (.int 3))])))) (bB (bU (.val (sDo mD [.val (gW (jn (cu 2)) 1 [1] (gN 0) (jN) (aF 2 fG [.nam 0,.nam 1]))])))))
 (bI (sC (.bl false)))
 (bF)))
 (bI (sC (.bl true))))))))
def fO:cW:=fnS 2 2 true
 (aD (bD 2 (aA 2 aq 0 [.val (sC (.int 18))]))
 (aD (sIf (bU (.val (sDo gC [.nam 1,.val (sC (.ty "tuple"))])))
 (aD (bD 3 (fj [.val (sDo jq [.nam 1]),.val (sDo cC [.nam 1,.val (eH [.val (sC (.int 0))])]),.val (lK (.nam 1) (.val (sDo oU [.val (sC (.int 1))]))),.val (eH []),.val (sC .non),.val (sC (.int 0)),.val (sDo cC [.nam 1,.val (uH (.nam 1) (.val (sDo oU [.val (sC (.int 1))])))]),.val (sDo uw [.nam 1,.val (sDo oU [.val (sC (.int 1))])]),.val (eH [.val (cu 1)])]))
 (bI (bH 3 (.val (sDo pZ [.nam 2,.val (sC (.int 2))])))))
 (bF))
 (aD (bD 3 (fj [.val (sC .non),.val (sC (.bl true)),.val (sC (.bl false)),.val (sC (.int 0)),.val (sDo oU [.val (sC (.int 1))]),.val (sC (.int 1)),.val (sC (.int 2)),.val (sC (.int 3)),.val (sC (.int 4)),.val (sC (.int 10)),.val (sC (.int 21)),.val (sC (.int 100)),.val (sC (.int 101)),.val (sDo oV [.val (sC (.int 10)),.val (sC (.int 39))]),.val (sC (.str "1")),.val (eH []),.val (fj [.val (cu 1)]),.val (sC (.str "on"))]))
 (aD (sIf (tE (bU (.val (sDo gC [.nam 1,.val (sC (.ty "int"))]))) (tB' (sDo dEq [.val (aA 2 aq 0 [.val (sC (.int 2))]),.val (sC (.int 1))])))
 (bI (sDo jH [.val (sDo uv [.nam 1,.val (sC (.int 1))]),.val (sDo mF [.val (sC (.int 2)),.val (sDo jG [.nam 2,.val (sC (.int 2))])])]))
 (bF))
 (bI (bH 3 (.nam 2)))))))
def cF:Nat->cW
 | 0=>fnS 2 1 true zE
 | m+1=>fnS 2 1 true
   (aD (sIf (tE (bU (.val (sDo gC [.nam 1,.val (sC (.ty "tuple"))]))) (tE (tB' (sDo dGt [.val (sDo jQ [.nam 1]),.val (sC (.int 0))])) (tB' (sDo dGt [.val (aA 2 aq 0 [.val (sC (.int 6))]),.val (sC (.int 0))]))))
   (aD (bD 2 (aA 2 aq 0 [.val (sDo jQ [.nam 1])]))
   (bI (sDo cC [.val (sDo cC [.val (lK (.nam 1) (.nam 2)),.val (eH [.val (aA 2 (cF m) 0 [.val (bH 1 (.nam 2))])])]),.val (uH (.nam 1) (.val (sDo cC [.nam 2,.val (sC (.int 1))])))])))
   (bF))
   (bI (aA 2 fO 0 [.nam 1])))
def iW:cW:=fnS 1 8 false
 (aD (gU (cG (.val (sDo Ce [.val (sC (.int 1)),.val (sDo wJ [.val (sC (.int 4)),.val (sDo jQ [.nam 0])])]))) (gN 1)
 (lJ [2,3,4] (aD (bD 2 (aF 2 ik [.nam 0,.nam 1]))
 (aD (bD 3 (aA 3 dY 2 [.val (sC (.int 3)),.val (sC (.int 3))]))
 (aD (bD 4 (fj [.val (cu 3),.val (sC .non),.val (eH []),.val (fj []),.val (sC (.int 0)),.val (sC (.bl true)),.val (sC (.str "house")),.val (sDo jq [.nam 3]),.val (lK (.nam 3) (.val (sC (.int 3)))),.val (sDo cC [.nam 3,.val (eH [.val (eH [])])])]))
 (aD (gU (cG (.val (sC (.int 6)))) (gN 5)
 (lJ [6] (aD (bD 6 (cu 3))
 (aD (gU (cG (.val (sDo cC [.val (sC (.int 1)),.val (aA 2 aq 2 [.val (sC (.int 3))])]))) (gN 7)
 (bD 6 (aA 2 (cF 9) 2 [.nam 6])))
 (jW (lW gG 4 [.val (cu 6)]))))))
 (aD (sIf (bB (bU (.val (aF 1 bY [.nam 3]))))
 (bI (sC (.bl false)))
 (bF))
 (gU (jn (cu 4)) (gN 6)
 (lJ [8] (aD (bD 8 (aF 1 gk [.nam 6]))
 (sIf (fu (bB (bU (.val (sDo gC [.nam 8,.val (sC (.ty "bool"))])))) (tB' (sDo dNe [.nam 8,.val (aF 1 bY [.nam 6])])))
 (bI (sC (.bl false)))
 (bF))))))))))))
 (bI (sC (.bl true))))
end Z
namespace Z
open PySem L2 TM PyProof.Rows
theorem bK {m:Nat} {d:D} (h:Th m d) {lo hi:Int} {Q:D->Option D->Prop} (q:Q (.bl (au d lo hi)) none):aJ [d,.int lo,.int hi] Q:=by
 rcases yR d with ⟨i,rfl⟩ | hn
 ·dsimp? only [aJ,Fe,Fd]
  have q':Q (.bl (decide (lo<=i)&&decide (i<=hi))) none:=q
  refine gf (fun hc=>?_) fun hc=>?_
  ·dsimp? only
   rw [decide_eq_true hc,Bool.true_and] at q'
   exact q'
  ·rw [decide_eq_false hc,Bool.false_and] at q'
   exact q'
 ·rw [mW hn] at q
  rcases xu h hn with e | ⟨c,rfl⟩
  ·dsimp? only [aJ,e]
   exact q
  ·dsimp? only [aJ,Ak,Aj]
   exact q
theorem di {m:Nat} {d:D} (h:Th m d) {lo hi:Int} {Q:D->Option D->Prop} (q:Q (.bl (bZ d lo hi)) none):aP [d,.int lo,.int hi] Q:=by
 rcases eX d with ⟨ds,rfl⟩ | hn
 ·dsimp? only [aP,rM]
  have q':Q (.bl (decide (lo<=(ds.length:Int))&&decide ((ds.length:Int)<=hi))) none:=q
  refine gf (fun hc=>?_) fun hc=>?_
  ·dsimp? only
   rw [decide_eq_true hc,Bool.true_and] at q'
   exact q'
  ·rw [decide_eq_false hc,Bool.false_and] at q'
   exact q'
 ·rw [cH hn] at q
  dsimp? only [aP,jw h hn]
  exact q
theorem kY {ds:List D} {n:Nat} (h:ds.length≠n):bZ (.tup ds) n n=false:=by
 show (decide ((n:Int)<=(ds.length:Int))&&decide ((ds.length:Int)<=n))=false
 by_cases c:(n:Int)<=(ds.length:Int)
 ·rw [decide_eq_true c,Bool.true_and];exact decide_eq_false (by omega)
 ·rw [decide_eq_false c];rfl
theorem dB (f:D->D) {g:fc} {el:bA} (S:En->Prop) {xs:List D} {ρ : En} {Q:List D->En->Prop} (h0:S ρ)
  (hs:∀ x∈xs,∀ ρ,S ρ -> ∀ P:D->En->Prop,(∀ ρ',S ρ'->P (f x) ρ')->g x ρ fun ρ1=>el ρ1 P) (hQ:∀ ρ',S ρ'->Q (xs.map f) ρ'):jO g jN el xs ρ Q:=by
 have:=jP id f (g:=g) (el:=el) S (xs:=xs) (Q:=Q) h0 hs hQ
 rw [List.map_id] at this
 exact this
def bJ:D->Bool
 | .tup [a,b]=>au a 1 20&&au b 0 99
 | _=>false
theorem sO {ds:List D} (h:ds.length≠2):bJ (.tup ds)=false:=by
 unfold bJ
 split
 ·rename_i z;cases z;exact absurd rfl h
 ·rfl
theorem mL {d:D} (h:∀ ds,d ≠ .tup ds):bJ d=false:=by
 unfold bJ
 split
 ·exact absurd rfl (h _)
 ·rfl
theorem vX (d:D):(∃ a b,d = .tup [a,b])∨(∃ ds,d = .tup ds∧ds.length≠2) ∨ ∀ ds,d ≠ .tup ds:=by
 rcases eX d with ⟨ds,rfl⟩ | hn
 ·by_cases h:ds.length=2
  ·match ds,h with
   | [a,b],_=>exact .inl ⟨a,b,rfl⟩
  ·exact .inr (.inl ⟨ds,rfl,h⟩)
 ·exact .inr (.inr hn)
theorem Dm {m:Nat} {d:D} (h:Th m d) {Q:D->Option D->Prop} (q:Q (.bl (bJ d)) none):jg [d] Q:=by
 have hs:=h.s
 dsimp? only [jg,h.fz]
 refine eY h ?_
 rcases vX d with ⟨a,b,rfl⟩ | ⟨ds,rfl,hd⟩ | hn
 ·obtain ⟨ht,_⟩:=h.of_tup
  have ha:=ht a (by simp);have hb:=ht b (by simp)
  have er:bZ (.tup [a,b]) 2 2=true:=rfl
  have i0:ixF (.tup [a,b]) 0=some (a,none):=aU _ (k:=0) rfl ha.s
  have i1:ixF (.tup [a,b]) 1=some (b,none):=aU _ (k:=1) rfl hb.s
  have q':Q (.bl (au a 1 20&&au b 0 99)) none:=q
  dsimp? only [er,i0,ha.fz,hs,ha.s,hb.s]
  refine bw ha ?_
  cases w1:au a 1 20 with
  | false=>
   rw [w1] at q'
   (try dsimp? only)
   exact q'
  | true=>
   rw [w1,Bool.true_and] at q'
   dsimp? only [i1,hb.fz,ha.s,hb.s]
   refine bw hb ?_
   (try dsimp? only)
   exact q'
 ·rw [sO hd] at q
  dsimp? only [show bZ (.tup ds) 2 2=false from kY (n:=2) hd]
  exact q
 ·rw [mL hn] at q
  dsimp? only [cH hn]
  exact q
theorem yZ {m:Nat} {d:D} (h:Th m d) {Q:D->Option D->Prop} (q:Q (.bl (bJ d)) none):eN [d] Q:=by
 have hs:=h.s
 dsimp? only [eN,h.fz]
 refine di h ?_
 rcases vX d with ⟨a,b,rfl⟩ | ⟨ds,rfl,hd⟩ | hn
 ·obtain ⟨ht,_⟩:=h.of_tup
  have ha:=ht a (by simp);have hb:=ht b (by simp)
  have er:bZ (.tup [a,b]) 2 2=true:=rfl
  have i0:ixF (.tup [a,b]) 0=some (a,none):=aU _ (k:=0) rfl ha.s
  have i1:ixF (.tup [a,b]) 1=some (b,none):=aU _ (k:=1) rfl hb.s
  have q':Q (.bl (au a 1 20&&au b 0 99)) none:=q
  dsimp? only [er,i0,ha.fz,hs,ha.s,hb.s]
  refine bK ha ?_
  cases w1:au a 1 20 with
  | false=>
   rw [w1] at q'
   (try dsimp? only)
   exact q'
  | true=>
   rw [w1,Bool.true_and] at q'
   dsimp? only [i1,hb.fz,ha.s,hb.s]
   refine bK hb ?_
   (try dsimp? only)
   exact q'
 ·rw [sO hd] at q
  dsimp? only [show bZ (.tup ds) 2 2=false from kY (n:=2) hd]
  exact q
 ·rw [mL hn] at q
  dsimp? only [cH hn]
  exact q
theorem iV {d:D} (h:bJ d=true):∃ i j:Int,d = .tup [.int i,.int j]:=by
 rcases vX d with ⟨a,b,rfl⟩ | ⟨ds,rfl,hd⟩ | hn
 ·have h':(au a 1 20&&au b 0 99)=true:=h
  rw [Bool.and_eq_true] at h'
  obtain ⟨i,rfl,_⟩:=bV h'.1
  obtain ⟨j,rfl,_⟩:=bV h'.2
  exact ⟨i,j,rfl⟩
 ·rw [sO hd] at h;cases h
 ·rw [mL hn] at h;cases h
def lV:D->Int
 | .tup [_,.int j]=>j
 | _=>0
def dX:D->Bool
 | .tup [p]=>bJ p
 | .tup [p,r]=>bJ p&&(bJ r&&decide (lV p<=lV r))
 | _=>false
theorem ym (ds:List D):bZ (.tup ds) 1 2=true∧((∃ p,ds=[p]) ∨ ∃ p r,ds=[p,r])∨bZ (.tup ds) 1 2=false∧dX (.tup ds)=false:=by
 match ds with
 | []=>exact .inr ⟨rfl,rfl⟩
 | [p]=>exact .inl ⟨rfl,.inl ⟨p,rfl⟩⟩
 | [p,r]=>exact .inl ⟨rfl,.inr ⟨p,r,rfl⟩⟩
 | a :: b :: c :: ds=>
  refine .inr ⟨?_,rfl⟩
  show (decide ((1:Int)<=((a :: b :: c :: ds).length:Int))&&decide (((a :: b :: c :: ds).length:Int)<=2))=false
  rw [decide_eq_false (p:=((a :: b :: c :: ds).length:Int)<=2) (by simp only [List.length_cons];omega),Bool.and_false]
theorem ql {d:D} (h:∀ ds,d ≠ .tup ds):dX d=false:=by
 unfold dX
 split
 ·exact absurd rfl (h _)
 ·exact absurd rfl (h _)
 ·rfl
theorem zu {m:Nat} {d:D} (h:Th m d) {Q:D->Option D->Prop} (q:Q (.bl (dX d)) none):gP [d] Q:=by
 have hs:=h.s
 dsimp? only [gP,h.fz]
 refine eY h ?_
 rcases eX d with ⟨ds,rfl⟩ | hn
 ·obtain ⟨ht,_⟩:=h.of_tup
  rcases ym ds with ⟨e,hp⟩ | ⟨e,e2⟩
  ·have hl:ds.length<=2:=by rcases hp with ⟨p,rfl⟩ | ⟨p,r,rfl⟩ <;> simp
   have hsl:D.shs ds=true:=(eZ ds).mpr fun d hd=>(ht d hd).s
   have hfl:D.fzs ds=ds:=D.shs_fz _ hsl
   dsimp? only [e,hs,hsl,hfl]
   refine bR (by omega) ?_
   (try dsimp? only)
   refine dB (fun d=>D.bl (bJ d)) (fun ρ => ∃ x,ρ = [x]) ⟨_,rfl⟩ ?_ ?_
   ·rintro d hd ρ ⟨x,rfl⟩ P hP
    dsimp? only [(ht d hd).fz]
    refine Dm (ht d hd) ?_
    dsimp? only [(ht d hd).s]
    exact hP _ ⟨_,rfl⟩
   rintro ρ ⟨x,rfl⟩
   dsimp? only [lu true bJ ds]
   cases ea:ds.all bJ with
   | false=>
    have e3:dX (.tup ds)=false:=by
     rcases hp with ⟨p,rfl⟩ | ⟨p,r,rfl⟩
     ·simpa [dX] using ea
     ·have ea':(bJ p&&(bJ r&&true))=false:=ea
      show (bJ p&&(bJ r&&_))=false
      revert ea'
      cases bJ p <;> cases bJ r <;> simp
    rw [e3] at q
    (try dsimp? only)
    exact q
   | true=>
    rcases hp with ⟨p,rfl⟩ | ⟨p,r,rfl⟩
    ·have hp1:bJ p=true:=by simpa using ea
     obtain ⟨i,j,rfl⟩:=iV hp1
     have q':Q (.bl (bJ (.tup [.int i,.int j]))) none:=q
     rw [hp1] at q'
     have i0:ixF (.tup [.tup [.int i,.int j]]) 0=some (.tup [.int i,.int j],none):=rfl
     have i9:ixF (.tup [.tup [.int i,.int j]]) (-1)=some (.tup [.int i,.int j],none):=rfl
     have k1:dIx [.tup [.int i,.int j],.int 1]=some (.int j):=rfl
     dsimp? only [i0,i9,k1,decide_eq_true (Int.le_refl j)]
     exact q'
    ·have hp2:bJ p=true∧bJ r=true:=by
      rw [List.all_cons,List.all_cons,Bool.and_eq_true,Bool.and_eq_true] at ea
      exact ⟨ea.1,ea.2.1⟩
     have q':Q (.bl (bJ p&&(bJ r&&decide (lV p<=lV r)))) none:=q
     rw [hp2.1,hp2.2,Bool.true_and,Bool.true_and] at q'
     obtain ⟨i,j,rfl⟩:=iV hp2.1
     obtain ⟨i',j',rfl⟩:=iV hp2.2
     have i0:ixF (.tup [.tup [.int i,.int j],.tup [.int i',.int j']]) 0=some (.tup [.int i,.int j],none):=rfl
     have i9:ixF (.tup [.tup [.int i,.int j],.tup [.int i',.int j']]) (-1)=some (.tup [.int i',.int j'],none):=rfl
     have k1:dIx [.tup [.int i,.int j],.int 1]=some (.int j):=rfl
     have k2:dIx [.tup [.int i',.int j'],.int 1]=some (.int j'):=rfl
     dsimp? only [i0,i9,k1,k2]
     exact q'
  ·rw [e2] at q
   dsimp? only [e]
   exact q
 ·rw [ql hn] at q
  dsimp? only [cH hn]
  exact q
end Z
namespace Z
open PySem L2 TM PyProof.Rows
def blB:D->Bool
 | .bl _=>true
 | _=>false
theorem xr {m:Nat} {d:D} (h:Th m d):gC [d,.ty "bool"]=some (.bl (blB d)):=by
 have hp:=h.p
 cases d with
 | scr _=>simp [pn] at hp
 | ty _=>simp [pn] at hp
 | xc _ _=>simp [pn] at hp
 | fn _=>simp [pn] at hp
 | dct _ _ _=>simp [pn] at hp
 | _=>rfl
def bO (n:Int):D->Bool
 | .tup [a,b,c,p,e,f,g,h]=>au a 0 (n - 1)&&(au b 0 20&&(au c 0 99&&(dX p&&(au e 0 99&&(au f 1 2&&(au g 1 2&&blB h))))))
 | _=>false
theorem BW {n:Int} {ds:List D} (h:ds.length≠8):bO n (.tup ds)=false:=by
 unfold bO
 split
 ·rename_i z;cases z;exact absurd rfl h
 ·rfl
theorem uQ {n:Int} {d:D} (h:∀ ds,d ≠ .tup ds):bO n d=false:=by
 unfold bO
 split
 ·exact absurd rfl (h _)
 ·rfl
theorem wW (d:D):(∃ a b c p e f g h,d = .tup [a,b,c,p,e,f,g,h])∨(∃ ds,d = .tup ds∧ds.length≠8) ∨ ∀ ds,d ≠ .tup ds:=by
 rcases eX d with ⟨ds,rfl⟩ | hn
 ·by_cases h:ds.length=8
  ·match ds,h with
   | [a,b,c,p,e,f,g,h],_=>exact .inl ⟨a,b,c,p,e,f,g,h,rfl⟩
  ·exact .inr (.inl ⟨ds,rfl,h⟩)
 ·exact .inr (.inr hn)
theorem Hk {m:Nat} {n:Int} {d:D} (h:Th m d) {Q:D->Option D->Prop} (q:Q (.bl (bO n d)) none):jY [d,.int n] Q:=by
 have hs:=h.s
 dsimp? only [jY,h.fz]
 refine eY h ?_
 rcases wW d with ⟨a,b,c,p,e,f,g,h',rfl⟩ | ⟨ds,rfl,hd⟩ | hn
 ·obtain ⟨ht,_⟩:=h.of_tup
  have ta:=ht a (by simp)
  have tb:=ht b (by simp)
  have tc:=ht c (by simp)
  have tp:=ht p (by simp)
  have te:=ht e (by simp)
  have tf:=ht f (by simp)
  have tg:=ht g (by simp)
  have th:=ht h' (by simp)
  have er:bZ (.tup [a,b,c,p,e,f,g,h']) 8 8=true:=rfl
  have i0:ixF (.tup [a,b,c,p,e,f,g,h']) 0=some (a,none):=aU _ (k:=0) rfl ta.s
  have i1:ixF (.tup [a,b,c,p,e,f,g,h']) 1=some (b,none):=aU _ (k:=1) rfl tb.s
  have i2:ixF (.tup [a,b,c,p,e,f,g,h']) 2=some (c,none):=aU _ (k:=2) rfl tc.s
  have i3:ixF (.tup [a,b,c,p,e,f,g,h']) 3=some (p,none):=aU _ (k:=3) rfl tp.s
  have i4:ixF (.tup [a,b,c,p,e,f,g,h']) 4=some (e,none):=aU _ (k:=4) rfl te.s
  have i5:ixF (.tup [a,b,c,p,e,f,g,h']) 5=some (f,none):=aU _ (k:=5) rfl tf.s
  have i6:ixF (.tup [a,b,c,p,e,f,g,h']) 6=some (g,none):=aU _ (k:=6) rfl tg.s
  have i7:ixF (.tup [a,b,c,p,e,f,g,h']) 7=some (h',none):=aU _ (k:=7) rfl th.s
  dsimp? only [er,i0,i1,i2,i3,i4,i5,i6,i7,ta.fz,tb.fz,tc.fz,tp.fz,te.fz,tf.fz,tg.fz,th.fz,ta.s,tb.s,tc.s,tp.s,te.s,tf.s,tg.s,th.s,hs]
  refine bw ta ?_
  cases wa:au a 0 (n - 1) with
  | false=>
   rw [show bO n (.tup [a,b,c,p,e,f,g,h'])=false by simp [bO,wa]] at q
   (try dsimp? only)
   exact q
  | true=>
   dsimp? only [er,i0,i1,i2,i3,i4,i5,i6,i7,ta.fz,tb.fz,tc.fz,tp.fz,te.fz,tf.fz,tg.fz,th.fz,ta.s,tb.s,tc.s,tp.s,te.s,tf.s,tg.s,th.s,hs]
   refine bw tb ?_
   cases wb':au b 0 20 with
   | false=>
    rw [show bO n (.tup [a,b,c,p,e,f,g,h'])=false by simp [bO,wb']] at q
    (try dsimp? only)
    exact q
   | true=>
    dsimp? only [er,i0,i1,i2,i3,i4,i5,i6,i7,ta.fz,tb.fz,tc.fz,tp.fz,te.fz,tf.fz,tg.fz,th.fz,ta.s,tb.s,tc.s,tp.s,te.s,tf.s,tg.s,th.s,hs]
    refine bw tc ?_
    cases wc:au c 0 99 with
    | false=>
     rw [show bO n (.tup [a,b,c,p,e,f,g,h'])=false by simp [bO,wc]] at q
     (try dsimp? only)
     exact q
    | true=>
     dsimp? only [er,i0,i1,i2,i3,i4,i5,i6,i7,ta.fz,tb.fz,tc.fz,tp.fz,te.fz,tf.fz,tg.fz,th.fz,ta.s,tb.s,tc.s,tp.s,te.s,tf.s,tg.s,th.s,hs]
     refine zu tp ?_
     cases wp:dX p with
     | false=>
      rw [show bO n (.tup [a,b,c,p,e,f,g,h'])=false by simp [bO,wp]] at q
      (try dsimp? only)
      exact q
     | true=>
      dsimp? only [er,i0,i1,i2,i3,i4,i5,i6,i7,ta.fz,tb.fz,tc.fz,tp.fz,te.fz,tf.fz,tg.fz,th.fz,ta.s,tb.s,tc.s,tp.s,te.s,tf.s,tg.s,th.s,hs]
      refine bw te ?_
      cases we:au e 0 99 with
      | false=>
       rw [show bO n (.tup [a,b,c,p,e,f,g,h'])=false by simp [bO,we]] at q
       (try dsimp? only)
       exact q
      | true=>
       dsimp? only [er,i0,i1,i2,i3,i4,i5,i6,i7,ta.fz,tb.fz,tc.fz,tp.fz,te.fz,tf.fz,tg.fz,th.fz,ta.s,tb.s,tc.s,tp.s,te.s,tf.s,tg.s,th.s,hs]
       refine bw tf ?_
       cases wf:au f 1 2 with
       | false=>
        rw [show bO n (.tup [a,b,c,p,e,f,g,h'])=false by simp [bO,wf]] at q
        (try dsimp? only)
        exact q
       | true=>
        dsimp? only [er,i0,i1,i2,i3,i4,i5,i6,i7,ta.fz,tb.fz,tc.fz,tp.fz,te.fz,tf.fz,tg.fz,th.fz,ta.s,tb.s,tc.s,tp.s,te.s,tf.s,tg.s,th.s,hs]
        refine bw tg ?_
        cases wg:au g 1 2 with
        | false=>
         rw [show bO n (.tup [a,b,c,p,e,f,g,h'])=false by simp [bO,wg]] at q
         (try dsimp? only)
         exact q
        | true=>
         have e1:bO n (.tup [a,b,c,p,e,f,g,h'])=blB h':=by show (au a 0 (n - 1)&&_)=_;rw [wa,wb',wc,wp,we,wf,wg];rfl
         rw [e1] at q
         dsimp? only [ta.fz,tb.fz,tc.fz,tp.fz,te.fz,tf.fz,tg.fz,th.fz,ta.s,tb.s,tc.s,tp.s,te.s,tf.s,tg.s,th.s,hs,xr th]
         exact q
 ·rw [BW hd] at q
  dsimp? only [show bZ (.tup ds) 8 8=false from kY (n:=8) hd]
  exact q
 ·rw [uQ hn] at q
  dsimp? only [cH hn]
  exact q
end Z
namespace Z
open PySem L2 TM PyProof.Rows
theorem zx {p:D} (h:bZ p 1 2=false):dX p=false:=by
 rcases eX p with ⟨ds,rfl⟩ | hn
 ·rcases ym ds with ⟨e,_⟩ | ⟨_,e2⟩
  ·rw [h] at e;cases e
  ·exact e2
 ·exact ql hn
theorem zr {ds:List D} (h:bZ (.tup ds) 1 2=true) (ha:ds.all bJ=false):dX (.tup ds)=false:=by
 rcases ym ds with ⟨_,hp⟩ | ⟨_,e2⟩
 ·rcases hp with ⟨p,rfl⟩ | ⟨p,r,rfl⟩
  ·simpa [dX] using ha
  ·have ea':(bJ p&&(bJ r&&true))=false:=ha
   show (bJ p&&(bJ r&&_))=false
   revert ea'
   cases bJ p <;> cases bJ r <;> simp
 ·exact e2
theorem Dn {ds:List D} (h:bZ (.tup ds) 1 2=true) (ha:ds.all bJ=true):∃ i j i' j':Int,dIx [.tup ds,.int 0]=some (.tup [.int i,.int j])∧dIx [.tup ds,.int (-1)]=some (.tup [.int i',.int j'])∧dX (.tup ds)=decide (j<=j'):=by
 rcases ym ds with ⟨_,hp⟩ | ⟨e,_⟩
 ·rcases hp with ⟨p,rfl⟩ | ⟨p,r,rfl⟩
  ·have hp1:bJ p=true:=by simpa using ha
   obtain ⟨i,j,rfl⟩:=iV hp1
   exact ⟨i,j,i,j,rfl,rfl,by rw [decide_eq_true (Int.le_refl j)];exact hp1⟩
  ·rw [List.all_cons,List.all_cons,Bool.and_eq_true,Bool.and_eq_true] at ha
   have e1:dX (.tup [p,r])=(bJ p&&(bJ r&&decide (lV p<=lV r))):=rfl
   rw [ha.1,ha.2.1,Bool.true_and,Bool.true_and] at e1
   obtain ⟨i,j,rfl⟩:=iV ha.1
   obtain ⟨i',j',rfl⟩:=iV ha.2.1
   exact ⟨i,j,i',j',rfl,rfl,e1⟩
 ·rw [h] at e;cases e
theorem CV {m:Nat} {n:Int} {d:D} (h:Th m d) {Q:D->Option D->Prop} (q:Q (.bl (bO n d)) none):fH [d,.int n] Q:=by
 have hs:=h.s
 dsimp? only [fH,h.fz]
 refine di h ?_
 rcases wW d with ⟨a,b,c,p,e,f,g,h',rfl⟩ | ⟨ds,rfl,hd⟩ | hn
 ·obtain ⟨ht,_⟩:=h.of_tup
  have ta:=ht a (by simp)
  have tb:=ht b (by simp)
  have tc:=ht c (by simp)
  have tp:=ht p (by simp)
  have te:=ht e (by simp)
  have tf:=ht f (by simp)
  have tg:=ht g (by simp)
  have th:=ht h' (by simp)
  have er:bZ (.tup [a,b,c,p,e,f,g,h']) 8 8=true:=rfl
  have i0:ixF (.tup [a,b,c,p,e,f,g,h']) 0=some (a,none):=aU _ (k:=0) rfl ta.s
  have i1:ixF (.tup [a,b,c,p,e,f,g,h']) 1=some (b,none):=aU _ (k:=1) rfl tb.s
  have i2:ixF (.tup [a,b,c,p,e,f,g,h']) 2=some (c,none):=aU _ (k:=2) rfl tc.s
  have i3:ixF (.tup [a,b,c,p,e,f,g,h']) 3=some (p,none):=aU _ (k:=3) rfl tp.s
  have i4:ixF (.tup [a,b,c,p,e,f,g,h']) 4=some (e,none):=aU _ (k:=4) rfl te.s
  have i5:ixF (.tup [a,b,c,p,e,f,g,h']) 5=some (f,none):=aU _ (k:=5) rfl tf.s
  have i6:ixF (.tup [a,b,c,p,e,f,g,h']) 6=some (g,none):=aU _ (k:=6) rfl tg.s
  have i7:ixF (.tup [a,b,c,p,e,f,g,h']) 7=some (h',none):=aU _ (k:=7) rfl th.s
  dsimp? only [er,i0,i1,i2,i3,i4,i5,i6,i7,ta.fz,tb.fz,tc.fz,tp.fz,te.fz,tf.fz,tg.fz,th.fz,ta.s,tb.s,tc.s,tp.s,te.s,tf.s,tg.s,th.s,hs]
  refine bK ta ?_
  cases wa:au a 0 (n - 1) with
  | false=>
   rw [show bO n (.tup [a,b,c,p,e,f,g,h'])=false by simp [bO,wa]] at q
   (try dsimp? only)
   exact q
  | true=>
   dsimp? only [er,i0,i1,i2,i3,i4,i5,i6,i7,ta.fz,tb.fz,tc.fz,tp.fz,te.fz,tf.fz,tg.fz,th.fz,ta.s,tb.s,tc.s,tp.s,te.s,tf.s,tg.s,th.s,hs]
   refine bK tb ?_
   cases wb':au b 0 20 with
   | false=>
    rw [show bO n (.tup [a,b,c,p,e,f,g,h'])=false by simp [bO,wb']] at q
    (try dsimp? only)
    exact q
   | true=>
    dsimp? only [er,i0,i1,i2,i3,i4,i5,i6,i7,ta.fz,tb.fz,tc.fz,tp.fz,te.fz,tf.fz,tg.fz,th.fz,ta.s,tb.s,tc.s,tp.s,te.s,tf.s,tg.s,th.s,hs]
    refine bK tc ?_
    cases wc:au c 0 99 with
    | false=>
     rw [show bO n (.tup [a,b,c,p,e,f,g,h'])=false by simp [bO,wc]] at q
     (try dsimp? only)
     exact q
    | true=>
     dsimp? only [er,i0,i1,i2,i3,i4,i5,i6,i7,ta.fz,tb.fz,tc.fz,tp.fz,te.fz,tf.fz,tg.fz,th.fz,ta.s,tb.s,tc.s,tp.s,te.s,tf.s,tg.s,th.s,hs]
     refine di tp ?_
     cases wr:bZ p 1 2 with
     | false=>
      rw [show bO n (.tup [a,b,c,p,e,f,g,h'])=false by simp [bO,zx wr]] at q
      (try dsimp? only)
      exact q
     | true=>
      dsimp? only [er,i0,i1,i2,i3,i4,i5,i6,i7,ta.fz,tb.fz,tc.fz,tp.fz,te.fz,tf.fz,tg.fz,th.fz,ta.s,tb.s,tc.s,tp.s,te.s,tf.s,tg.s,th.s,hs]
      refine bK te ?_
      cases we:au e 0 99 with
      | false=>
       rw [show bO n (.tup [a,b,c,p,e,f,g,h'])=false by simp [bO,we]] at q
       (try dsimp? only)
       exact q
      | true=>
       obtain ⟨ps,rfl⟩:∃ ps,p = .tup ps:=(eX p).elim id fun hn=>by rw [cH hn] at wr;cases wr
       obtain ⟨hps,_⟩:=tp.of_tup
       have hsl:D.shs ps=true:=(eZ ps).mpr fun d hd=>(hps d hd).s
       have hfl:D.fzs ps=ps:=D.shs_fz _ hsl
       have hl2:ps.length<=2:=by
        have:=wr
        rcases ym ps with ⟨_,⟨x,rfl⟩ | ⟨x,y,rfl⟩⟩ | ⟨e',_⟩
        ·simp
        ·simp
        ·rw [wr] at e';cases e'
       dsimp? only [er,i0,i1,i2,i3,i4,i5,i6,i7,ta.fz,tb.fz,tc.fz,tp.fz,te.fz,tf.fz,tg.fz,th.fz,ta.s,tb.s,tc.s,tp.s,te.s,tf.s,tg.s,th.s,hs,hsl,hfl]
       refine bR (by omega) ?_
       (try dsimp? only)
       refine dB (fun d=>D.bl (bJ d)) (fun ρ => ∃ x,ρ = [x]) ⟨_,rfl⟩ ?_ ?_
       ·rintro d hd ρ ⟨x,rfl⟩ P hP
        dsimp? only [(hps d hd).fz]
        refine yZ (hps d hd) ?_
        dsimp? only [(hps d hd).s]
        exact hP _ ⟨_,rfl⟩
       rintro ρ ⟨x,rfl⟩
       dsimp? only [lu true bJ ps]
       cases wl:ps.all bJ with
       | false=>
        rw [show bO n (.tup [a,b,c,.tup ps,e,f,g,h'])=false by simp [bO,zr wr wl]] at q
        (try dsimp? only)
        exact q
       | true=>
        obtain ⟨x1,y1,x2,y2,k0,k9,epb⟩:=Dn wr wl
        have k1:dIx [.tup [.int x1,.int y1],.int 1]=some (.int y1):=rfl
        have k2:dIx [.tup [.int x2,.int y2],.int 1]=some (.int y2):=rfl
        dsimp? only [er,i0,i1,i2,i3,i4,i5,i6,i7,ta.fz,tb.fz,tc.fz,tp.fz,te.fz,tf.fz,tg.fz,th.fz,ta.s,tb.s,tc.s,tp.s,te.s,tf.s,tg.s,th.s,hs,hsl,hfl,k0,k9,k1,k2]
        refine gf (fun hc=>?_) fun hc=>?_
        ·rw [show bO n (.tup [a,b,c,.tup ps,e,f,g,h'])=false by simp [bO,epb,decide_eq_false (show ¬ y1<=y2 by omega)]] at q
         (try dsimp? only)
         exact q
        dsimp? only [er,i0,i1,i2,i3,i4,i5,i6,i7,ta.fz,tb.fz,tc.fz,tp.fz,te.fz,tf.fz,tg.fz,th.fz,ta.s,tb.s,tc.s,tp.s,te.s,tf.s,tg.s,th.s,hs]
        refine bK tf ?_
        cases wf:au f 1 2 with
        | false=>
         rw [show bO n (.tup [a,b,c,.tup ps,e,f,g,h'])=false by simp [bO,wf]] at q
         (try dsimp? only)
         exact q
        | true=>
         dsimp? only [er,i0,i1,i2,i3,i4,i5,i6,i7,ta.fz,tb.fz,tc.fz,tp.fz,te.fz,tf.fz,tg.fz,th.fz,ta.s,tb.s,tc.s,tp.s,te.s,tf.s,tg.s,th.s,hs]
         refine bK tg ?_
         cases wg:au g 1 2 with
         | false=>
          rw [show bO n (.tup [a,b,c,.tup ps,e,f,g,h'])=false by simp [bO,wg]] at q
          (try dsimp? only)
          exact q
         | true=>
          have e1:bO n (.tup [a,b,c,.tup ps,e,f,g,h'])=blB h':=by show (au a 0 (n - 1)&&_)=_;rw [wa,wb',wc,we,wf,wg,epb,decide_eq_true (show y1<=y2 by omega)];rfl
          rw [e1] at q
          dsimp? only [i0,i1,i2,i3,i4,i5,i6,i7,ta.fz,tb.fz,tc.fz,tp.fz,te.fz,tf.fz,tg.fz,th.fz,ta.s,tb.s,tc.s,tp.s,te.s,tf.s,tg.s,th.s,hs,xr th]
          exact q
 ·rw [BW hd] at q
  dsimp? only [show bZ (.tup ds) 8 8=false from kY (n:=8) hd]
  exact q
 ·rw [uQ hn] at q
  dsimp? only [cH hn]
  exact q
end Z
namespace Z
open PySem L2 TM PyProof.Rows
theorem FW (d:D):d = .non∨d ≠ .non:=by cases d <;> simp
theorem EY {m:Nat} {d:D} (h:Th m d) (hn:d ≠ .non):yP [d,.non]=some (.bl false):=by
 have hp:=h.p
 cases d with
 | non=>exact absurd rfl hn
 | scr _=>simp [pn] at hp
 | ty _=>simp [pn] at hp
 | xc _ _=>simp [pn] at hp
 | fn _=>simp [pn] at hp
 | dct _ _ _=>simp [pn] at hp
 | _=>rfl
theorem Ai:yP [.non,.non]=some (.bl true):=rfl
def inD (c b:D):Bool:=match b with
 | .int j=>au c 0 j
 | _=>false
def cA (n:Int):D->Bool
 | .non=>true
 | .tup [a,b,c,e,f]=>au a 0 (n - 1)&&(au b 1 2&&(inD c b&&(au e 1 20&&inD f e)))
 | _=>false
theorem yz {n:Int} {ds:List D} (h:ds.length≠5):cA n (.tup ds)=false:=by
 unfold cA
 split
 ·rename_i z;cases z
 ·rename_i z;cases z;exact absurd rfl h
 ·rfl
theorem tB {n:Int} {d:D} (h0:d ≠ .non) (h:∀ ds,d ≠ .tup ds):cA n d=false:=by
 unfold cA
 split
 ·exact absurd rfl h0
 ·exact absurd rfl (h _)
 ·rfl
theorem Ab (d:D):(∃ a b c e f,d = .tup [a,b,c,e,f])∨(∃ ds,d = .tup ds∧ds.length≠5) ∨ ∀ ds,d ≠ .tup ds:=by
 rcases eX d with ⟨ds,rfl⟩ | hn
 ·by_cases h:ds.length=5
  ·match ds,h with
   | [a,b,c,e,f],_=>exact .inl ⟨a,b,c,e,f,rfl⟩
  ·exact .inr (.inl ⟨ds,rfl,h⟩)
 ·exact .inr (.inr hn)
theorem Du {m:Nat} {n:Int} {d:D} (h:Th m d) {Q:D->Option D->Prop} (q:Q (.bl (cA n d)) none):ir [d,.int n] Q:=by
 have hs:=h.s
 rcases FW d with rfl | h0
 ·dsimp? only [ir,Ai]
  exact q
 have hN:=EY h h0
 dsimp? only [ir,hN,h.fz]
 refine eY h ?_
 rcases Ab d with ⟨a,b,c,e,f,rfl⟩ | ⟨ds,rfl,hd⟩ | hn
 ·obtain ⟨ht,_⟩:=h.of_tup
  have ta:=ht a (by simp)
  have tb:=ht b (by simp)
  have tc:=ht c (by simp)
  have te:=ht e (by simp)
  have tf:=ht f (by simp)
  have er:bZ (.tup [a,b,c,e,f]) 5 5=true:=rfl
  have i0:ixF (.tup [a,b,c,e,f]) 0=some (a,none):=aU _ (k:=0) rfl ta.s
  have i1:ixF (.tup [a,b,c,e,f]) 1=some (b,none):=aU _ (k:=1) rfl tb.s
  have i2:ixF (.tup [a,b,c,e,f]) 2=some (c,none):=aU _ (k:=2) rfl tc.s
  have i3:ixF (.tup [a,b,c,e,f]) 3=some (e,none):=aU _ (k:=3) rfl te.s
  have i4:ixF (.tup [a,b,c,e,f]) 4=some (f,none):=aU _ (k:=4) rfl tf.s
  dsimp? only [er,i0,i1,i2,i3,i4,ta.fz,tb.fz,tc.fz,te.fz,tf.fz,ta.s,tb.s,tc.s,te.s,tf.s,hs]
  refine bw ta ?_
  cases wa':au a 0 (n - 1) with
  | false=>
   rw [show cA n (.tup [a,b,c,e,f])=false by simp [cA,wa']] at q
   (try dsimp? only)
   exact q
  | true=>
   dsimp? only [er,i0,i1,i2,i3,i4,ta.fz,tb.fz,tc.fz,te.fz,tf.fz,ta.s,tb.s,tc.s,te.s,tf.s,hs]
   refine bw tb ?_
   cases wb':au b 1 2 with
   | false=>
    rw [show cA n (.tup [a,b,c,e,f])=false by simp [cA,wb']] at q
    (try dsimp? only)
    exact q
   | true=>
    obtain ⟨j,rfl,_⟩:=bV wb'
    dsimp? only [er,i0,i1,i2,i3,i4,ta.fz,tc.fz,te.fz,tf.fz,ta.s,tc.s,te.s,tf.s,hs]
    refine bw tc ?_
    cases wc:au c 0 j with
    | false=>
     rw [show cA n (.tup [a,.int j,c,e,f])=false by simp [cA,inD,wc]] at q
     (try dsimp? only)
     exact q
    | true=>
     dsimp? only [er,i0,i1,i2,i3,i4,ta.fz,tc.fz,te.fz,tf.fz,ta.s,tc.s,te.s,tf.s,hs]
     refine bw te ?_
     cases we:au e 1 20 with
     | false=>
      rw [show cA n (.tup [a,.int j,c,e,f])=false by simp [cA,we]] at q
      (try dsimp? only)
      exact q
     | true=>
      obtain ⟨k,rfl,_⟩:=bV we
      have e1:cA n (.tup [a,.int j,c,.int k,f])=au f 0 k:=by show (au a 0 (n - 1)&&(au (.int j) 1 2&&(au c 0 j&&(au (.int k) 1 20&&au f 0 k))))=_;rw [wa',wb',wc,we];rfl
      rw [e1] at q
      dsimp? only [er,i0,i1,i2,i3,i4,ta.fz,tc.fz,tf.fz,ta.s,tc.s,tf.s,hs]
      refine bw tf ?_
      (try dsimp? only)
      exact q
 ·rw [yz hd] at q
  dsimp? only [show bZ (.tup ds) 5 5=false from kY (n:=5) hd]
  exact q
 ·rw [tB h0 hn] at q
  dsimp? only [cH hn]
  exact q
theorem za {m:Nat} {n:Int} {d:D} (h:Th m d) {Q:D->Option D->Prop} (q:Q (.bl (cA n d)) none):cZ [d,.int n] Q:=by
 have hs:=h.s
 rcases FW d with rfl | h0
 ·dsimp? only [cZ,Ai]
  exact q
 have hN:=EY h h0
 dsimp? only [cZ,hN,h.fz]
 refine di h ?_
 rcases Ab d with ⟨a,b,c,e,f,rfl⟩ | ⟨ds,rfl,hd⟩ | hn
 ·obtain ⟨ht,_⟩:=h.of_tup
  have ta:=ht a (by simp)
  have tb:=ht b (by simp)
  have tc:=ht c (by simp)
  have te:=ht e (by simp)
  have tf:=ht f (by simp)
  have er:bZ (.tup [a,b,c,e,f]) 5 5=true:=rfl
  have i0:ixF (.tup [a,b,c,e,f]) 0=some (a,none):=aU _ (k:=0) rfl ta.s
  have i1:ixF (.tup [a,b,c,e,f]) 1=some (b,none):=aU _ (k:=1) rfl tb.s
  have i2:ixF (.tup [a,b,c,e,f]) 2=some (c,none):=aU _ (k:=2) rfl tc.s
  have i3:ixF (.tup [a,b,c,e,f]) 3=some (e,none):=aU _ (k:=3) rfl te.s
  have i4:ixF (.tup [a,b,c,e,f]) 4=some (f,none):=aU _ (k:=4) rfl tf.s
  dsimp? only [er,i0,i1,i2,i3,i4,ta.fz,tb.fz,tc.fz,te.fz,tf.fz,ta.s,tb.s,tc.s,te.s,tf.s,hs]
  refine bK ta ?_
  cases wa':au a 0 (n - 1) with
  | false=>
   rw [show cA n (.tup [a,b,c,e,f])=false by simp [cA,wa']] at q
   (try dsimp? only)
   exact q
  | true=>
   dsimp? only [er,i0,i1,i2,i3,i4,ta.fz,tb.fz,tc.fz,te.fz,tf.fz,ta.s,tb.s,tc.s,te.s,tf.s,hs]
   refine bK tb ?_
   cases wb':au b 1 2 with
   | false=>
    rw [show cA n (.tup [a,b,c,e,f])=false by simp [cA,wb']] at q
    (try dsimp? only)
    exact q
   | true=>
    obtain ⟨j,rfl,_⟩:=bV wb'
    dsimp? only [er,i0,i1,i2,i3,i4,ta.fz,tc.fz,te.fz,tf.fz,ta.s,tc.s,te.s,tf.s,hs]
    refine bK tc ?_
    cases wc:au c 0 j with
    | false=>
     rw [show cA n (.tup [a,.int j,c,e,f])=false by simp [cA,inD,wc]] at q
     (try dsimp? only)
     exact q
    | true=>
     dsimp? only [er,i0,i1,i2,i3,i4,ta.fz,tc.fz,te.fz,tf.fz,ta.s,tc.s,te.s,tf.s,hs]
     refine bK te ?_
     cases we:au e 1 20 with
     | false=>
      rw [show cA n (.tup [a,.int j,c,e,f])=false by simp [cA,we]] at q
      (try dsimp? only)
      exact q
     | true=>
      obtain ⟨k,rfl,_⟩:=bV we
      have e1:cA n (.tup [a,.int j,c,.int k,f])=au f 0 k:=by show (au a 0 (n - 1)&&(au (.int j) 1 2&&(au c 0 j&&(au (.int k) 1 20&&au f 0 k))))=_;rw [wa',wb',wc,we];rfl
      rw [e1] at q
      dsimp? only [er,i0,i1,i2,i3,i4,ta.fz,tc.fz,tf.fz,ta.s,tc.s,tf.s,hs]
      refine bK tf ?_
      (try dsimp? only)
      exact q
 ·rw [yz hd] at q
  dsimp? only [show bZ (.tup ds) 5 5=false from kY (n:=5) hd]
  exact q
 ·rw [tB h0 hn] at q
  dsimp? only [cH hn]
  exact q
def eO (n:Int):D->Bool
 | .tup [a,b,c]=>au a 0 (n - 1)&&(au b 0 30&&au c 0 100)
 | _=>false
theorem BV {n:Int} {ds:List D} (h:ds.length≠3):eO n (.tup ds)=false:=by
 unfold eO
 split
 ·rename_i z;cases z;exact absurd rfl h
 ·rfl
theorem uO {n:Int} {d:D} (h:∀ ds,d ≠ .tup ds):eO n d=false:=by
 unfold eO
 split
 ·exact absurd rfl (h _)
 ·rfl
theorem yD (d:D):(∃ a b c,d = .tup [a,b,c])∨(∃ ds,d = .tup ds∧ds.length≠3) ∨ ∀ ds,d ≠ .tup ds:=by
 rcases eX d with ⟨ds,rfl⟩ | hn
 ·by_cases h:ds.length=3
  ·match ds,h with
   | [a,b,c],_=>exact .inl ⟨a,b,c,rfl⟩
  ·exact .inr (.inl ⟨ds,rfl,h⟩)
 ·exact .inr (.inr hn)
theorem Hh {m:Nat} {n:Int} {d:D} (h:Th m d) {Q:D->Option D->Prop} (q:Q (.bl (eO n d)) none):jX [d,.int n] Q:=by
 have hs:=h.s
 dsimp? only [jX,h.fz]
 refine eY h ?_
 rcases yD d with ⟨a,b,c,rfl⟩ | ⟨ds,rfl,hd⟩ | hn
 ·obtain ⟨ht,_⟩:=h.of_tup
  have ta:=ht a (by simp)
  have tb:=ht b (by simp)
  have tc:=ht c (by simp)
  have er:bZ (.tup [a,b,c]) 3 3=true:=rfl
  have i0:ixF (.tup [a,b,c]) 0=some (a,none):=aU _ (k:=0) rfl ta.s
  have i1:ixF (.tup [a,b,c]) 1=some (b,none):=aU _ (k:=1) rfl tb.s
  have i2:ixF (.tup [a,b,c]) 2=some (c,none):=aU _ (k:=2) rfl tc.s
  dsimp? only [er,i0,i1,i2,ta.fz,tb.fz,tc.fz,ta.s,tb.s,tc.s,hs]
  refine bw ta ?_
  cases wa':au a 0 (n - 1) with
  | false=>
   rw [show eO n (.tup [a,b,c])=false by simp [eO,wa']] at q
   (try dsimp? only)
   exact q
  | true=>
   dsimp? only [er,i0,i1,i2,ta.fz,tb.fz,tc.fz,ta.s,tb.s,tc.s,hs]
   refine bw tb ?_
   cases wb':au b 0 30 with
   | false=>
    rw [show eO n (.tup [a,b,c])=false by simp [eO,wb']] at q
    (try dsimp? only)
    exact q
   | true=>
    have e1:eO n (.tup [a,b,c])=au c 0 100:=by show (au a 0 (n - 1)&&(au b 0 30&&au c 0 100))=_;rw [wa',wb'];rfl
    rw [e1] at q
    dsimp? only [er,i0,i1,i2,ta.fz,tb.fz,tc.fz,ta.s,tb.s,tc.s,hs]
    refine bw tc ?_
    (try dsimp? only)
    exact q
 ·rw [BV hd] at q
  dsimp? only [show bZ (.tup ds) 3 3=false from kY (n:=3) hd]
  exact q
 ·rw [uO hn] at q
  dsimp? only [cH hn]
  exact q
theorem CT {m:Nat} {n:Int} {d:D} (h:Th m d) {Q:D->Option D->Prop} (q:Q (.bl (eO n d)) none):fG [d,.int n] Q:=by
 have hs:=h.s
 dsimp? only [fG,h.fz]
 refine di h ?_
 rcases yD d with ⟨a,b,c,rfl⟩ | ⟨ds,rfl,hd⟩ | hn
 ·obtain ⟨ht,_⟩:=h.of_tup
  have ta:=ht a (by simp)
  have tb:=ht b (by simp)
  have tc:=ht c (by simp)
  have er:bZ (.tup [a,b,c]) 3 3=true:=rfl
  have i0:ixF (.tup [a,b,c]) 0=some (a,none):=aU _ (k:=0) rfl ta.s
  have i1:ixF (.tup [a,b,c]) 1=some (b,none):=aU _ (k:=1) rfl tb.s
  have i2:ixF (.tup [a,b,c]) 2=some (c,none):=aU _ (k:=2) rfl tc.s
  dsimp? only [er,i0,i1,i2,ta.fz,tb.fz,tc.fz,ta.s,tb.s,tc.s,hs]
  refine bK ta ?_
  cases wa':au a 0 (n - 1) with
  | false=>
   rw [show eO n (.tup [a,b,c])=false by simp [eO,wa']] at q
   (try dsimp? only)
   exact q
  | true=>
   dsimp? only [er,i0,i1,i2,ta.fz,tb.fz,tc.fz,ta.s,tb.s,tc.s,hs]
   refine bK tb ?_
   cases wb':au b 0 30 with
   | false=>
    rw [show eO n (.tup [a,b,c])=false by simp [eO,wb']] at q
    (try dsimp? only)
    exact q
   | true=>
    have e1:eO n (.tup [a,b,c])=au c 0 100:=by show (au a 0 (n - 1)&&(au b 0 30&&au c 0 100))=_;rw [wa',wb'];rfl
    rw [e1] at q
    dsimp? only [er,i0,i1,i2,ta.fz,tb.fz,tc.fz,ta.s,tb.s,tc.s,hs]
    refine bK tc ?_
    (try dsimp? only)
    exact q
 ·rw [BV hd] at q
  dsimp? only [show bZ (.tup ds) 3 3=false from kY (n:=3) hd]
  exact q
 ·rw [uO hn] at q
  dsimp? only [cH hn]
  exact q
def fK (n:Int):D->Bool
 | .tup ds=>decide (ds.length<=3)&&ds.all (eO n)
 | _=>false
theorem tL {n:Int} {d:D} (h:∀ ds,d ≠ .tup ds):fK n d=false:=by
 unfold fK
 split
 ·exact absurd rfl (h _)
 ·rfl
theorem uG (ds:List D) (k:Nat):bZ (.tup ds) 0 k=decide (ds.length<=k):=by
 show (decide ((0:Int)<=(ds.length:Int))&&decide ((ds.length:Int)<=(k:Int)))=_
 rw [decide_eq_true (show (0:Int)<=(ds.length:Int) by omega),Bool.true_and]
 by_cases h:ds.length<=k
 ·rw [decide_eq_true h,decide_eq_true (by omega)]
 ·rw [decide_eq_false h,decide_eq_false (by omega)]
theorem Dz {m:Nat} {n:Int} {d:D} (h:Th m d) {Q:D->Option D->Prop} (q:Q (.bl (fK n d)) none):iD [d,.int n] Q:=by
 have hs:=h.s
 dsimp? only [iD,h.fz]
 refine eY h ?_
 rcases eX d with ⟨ds,rfl⟩ | hn
 ·obtain ⟨ht,_⟩:=h.of_tup
  have hsl:D.shs ds=true:=(eZ ds).mpr fun d hd=>(ht d hd).s
  have hfl:D.fzs ds=ds:=D.shs_fz _ hsl
  have q':Q (.bl (decide (ds.length<=3)&&ds.all (eO n))) none:=q
  rw [show bZ (.tup ds) 0 3=decide (ds.length<=3) from uG ds 3]
  by_cases c:ds.length<=3
  ·rw [decide_eq_true c,Bool.true_and] at q'
   dsimp? only [decide_eq_true c,hs,hsl,hfl]
   refine bR (by omega) ?_
   (try dsimp? only)
   refine dB (fun d=>D.bl (eO n d)) (fun ρ => ∃ x,ρ = [x,some (.int n)]) ⟨_,rfl⟩ ?_ ?_
   ·rintro d hd ρ ⟨x,rfl⟩ P hP
    dsimp? only [(ht d hd).fz]
    refine Hh (ht d hd) ?_
    dsimp? only [(ht d hd).s]
    exact hP _ ⟨_,rfl⟩
   rintro ρ ⟨x,rfl⟩
   dsimp? only [lu true (eO n) ds]
   exact q'
  ·rw [decide_eq_false c,Bool.false_and] at q'
   dsimp? only [decide_eq_false c]
   exact q'
 ·rw [tL hn] at q
  dsimp? only [cH hn]
  exact q
end Z
namespace Z
open PySem L2 TM PyProof.Rows
def je (xs:List Nat) (a:Nat):List Nat:=if a∈xs then xs else xs++[a]
def dF (xs:List Nat) (l:Ln):List Nat:=if l.a∈xs∨l.b∈xs then je (je xs l.a) l.b else xs
def gJ (ls:List Ln) (xs:List Nat):List Nat:=ls.foldl dF xs
def cV (ls:List Ln):Nat->List Nat
 | 0=>[0]
 | t+1=>gJ ls (cV ls t)
theorem xP {xs:List Nat} {a x:Nat} (h:x∈xs):x∈je xs a:=by
 unfold je;split
 ·exact h
 ·exact List.mem_append_left _ h
theorem xO {xs:List Nat} {a x:Nat} (h:x∈je xs a):x∈xs∨x=a:=by
 unfold je at h;split at h
 ·exact .inl h
 ·exact (List.mem_append.mp h).imp id fun z=>List.mem_singleton.mp z
theorem xN (xs:List Nat) (a:Nat):xs.length<=(je xs a).length∧((je xs a).length=xs.length->a∈xs∧je xs a=xs):=by
 unfold je;split
 ·rename_i h;exact ⟨Nat.le_refl _,fun _=>⟨h,rfl⟩⟩
 ·rw [List.length_append];exact ⟨by omega,fun h=>by simp at h⟩
theorem Aw {xs:List Nat} {a:Nat} (h:xs.Nodup):(je xs a).Nodup:=by
 unfold je;split
 ·exact h
 ·rename_i hn
  exact List.nodup_append.mpr ⟨h,by simp,fun x hx y hy=>by rw [List.mem_singleton.mp hy];intro e;rw [e] at hx;exact hn hx⟩
theorem CZ {xs:List Nat} {l:Ln} {x:Nat} (h:x∈xs):x∈dF xs l:=by
 unfold dF;split
 ·exact xP (xP h)
 ·exact h
theorem CW (xs:List Nat) (l:Ln):xs.length<=(dF xs l).length∧((dF xs l).length=xs.length->dF xs l=xs∧(l.a∈xs↔l.b∈xs)):=by
 unfold dF;split
 ·have h1:=xN xs l.a
  have h2:=xN (je xs l.a) l.b
  refine ⟨by omega,fun e=>?_⟩
  obtain ⟨a1,a2⟩:=h1.2 (by omega)
  obtain ⟨b1,b2⟩:=h2.2 (by omega)
  rw [a2] at b1
  exact ⟨b2.trans a2,fun _=>b1,fun _=>a1⟩
 ·rename_i h;exact ⟨Nat.le_refl _,fun _=>⟨rfl,fun z=>absurd (.inl z) h,fun z=>absurd (.inr z) h⟩⟩
theorem sE:∀ (ls:List Ln) (xs:List Nat),xs.length<=(gJ ls xs).length∧((gJ ls xs).length=xs.length->gJ ls xs=xs ∧ ∀ l∈ls,(l.a∈xs↔l.b∈xs))
 | [],xs=>⟨Nat.le_refl _,fun _=>⟨rfl,fun l h=>by simp at h⟩⟩
 | l :: ls,xs=>by
  have h1:=CW xs l
  have h2:=sE ls (dF xs l)
  show xs.length<=(gJ ls (dF xs l)).length∧((gJ ls (dF xs l)).length=xs.length->gJ ls (dF xs l)=xs∧_)
  refine ⟨by omega,fun e=>?_⟩
  obtain ⟨e1,c1⟩:=h1.2 (by omega)
  rw [e1] at h2 e ⊢
  obtain ⟨e2,c2⟩:=h2.2 e
  refine ⟨e2,fun l' hl=>?_⟩
  rcases List.mem_cons.mp hl with rfl | hl
  ·exact c1
  ·exact c2 l' hl
structure Met (n:Nat) (ls:List Ln) (xs:List Nat):Prop where
 nd:xs.Nodup
 z:0∈xs
 lt:∀ x∈xs,x<n
 c:∀ c:Nat->Int,(∀ l∈ls,c l.a=c l.b) -> ∀ x∈xs,c x=c 0
theorem Met.step {n:Nat} {ls:List Ln} {xs:List Nat} {l:Ln} (M:Met n ls xs) (hl:l∈ls) (ho:l.Ok n):Met n ls (dF xs l):=by
 by_cases h:l.a∈xs∨l.b∈xs
 ·have e:dF xs l=je (je xs l.a) l.b:=by unfold dF;rw [if_pos h]
  have mem:∀ x∈dF xs l,x∈xs∨x=l.a∨x=l.b:=fun x hx=>by
   rw [e] at hx
   rcases xO hx with z | z
   ·rcases xO z with z | z
    ·exact .inl z
    ·exact .inr (.inl z)
   ·exact .inr (.inr z)
  refine ⟨by rw [e];exact Aw (Aw M.nd),CZ M.z,fun x hx=>?_,fun c hc x hx=>?_⟩
  ·rcases mem x hx with z | z | z
   ·exact M.lt x z
   ·rw [z];exact ho.a
   ·rw [z];exact ho.b
  ·have e2:=hc l hl
   have e3:c l.a=c 0:=by
    rcases h with z | z
    ·exact M.c c hc _ z
    ·rw [e2];exact M.c c hc _ z
   rcases mem x hx with z | z | z
   ·exact M.c c hc x z
   ·rw [z];exact e3
   ·rw [z,← e2];exact e3
 ·have e:dF xs l=xs:=by unfold dF;rw [if_neg h]
  rw [e];exact M
theorem Met.sweepAux {n:Nat} {all:List Ln} (ho:∀ l∈all,l.Ok n):∀ (ls:List Ln) {xs:List Nat},(∀ l∈ls,l∈all)->Met n all xs->Met n all (gJ ls xs)
 | [],_,_,M=>M
 | l :: ls,_,hs,M=>Met.sweepAux ho ls (fun l' h=>hs l' (List.mem_cons_of_mem _ h)) (M.step (hs l List.mem_cons_self) (ho l (hs l List.mem_cons_self)))
theorem su {n:Nat} {ls:List Ln} (hn:1<=n) (ho:∀ l∈ls,l.Ok n):∀ t,Met n ls (cV ls t)
 | 0=>⟨by simp [cV],by simp [cV],fun x hx=>by simp [cV] at hx;omega,fun c _ x hx=>by simp [cV] at hx;rw [hx]⟩
 | t+1=>Met.sweepAux ho ls (fun _ h=>h) (su hn ho t)
theorem yX {n:Nat}:∀ {xs:List Nat},xs.Nodup->(∀ x∈xs,x<n)->xs.length<=n:=by
 induction n with
 | zero=>intro xs _ h;cases xs with
  | nil=>simp
  | cons x xs=>exact absurd (h x List.mem_cons_self) (by omega)
 | succ n ih=>
  intro xs nd h
  by_cases c:n∈xs
  ·have:=ih (xs:=xs.erase n) (nd.erase n) fun x hx=>by
    obtain ⟨h1,h2⟩:=(List.Nodup.mem_erase_iff nd).mp hx
    have:=h x h2
    omega
   rw [List.length_erase_of_mem c] at this
   omega
  ·have:=ih nd fun x hx=>by
    have h1:=h x hx
    have h2:x≠n:=fun e=>c (e ▸ hx)
    omega
   omega
def qU (ls:List Ln) (xs:List Nat):Prop:=∀ l∈ls,(l.a∈xs↔l.b∈xs)
theorem tD:∀ (ls:List Ln) {xs:List Nat},qU ls xs->gJ ls xs=xs
 | [],_,_=>rfl
 | l :: ls,xs,h=>by
  have e:dF xs l=xs:=by
   unfold dF
   split
   ·rename_i z
    have h1:=h l List.mem_cons_self
    have ha:l.a∈xs:=z.elim id h1.mpr
    have hb:=h1.mp ha
    unfold je
    rw [if_pos ha,if_pos hb]
   ·rfl
  show gJ ls (dF xs l)=xs
  rw [e]
  exact tD ls fun l' h'=>h l' (List.mem_cons_of_mem _ h')
theorem rO (ls:List Ln):∀ t,qU ls (cV ls t)∨t+1<=(cV ls t).length
 | 0=>.inr (by simp [cV])
 | t+1=>by
  rcases rO ls t with h | h
  ·refine .inl ?_
   show qU ls (gJ ls (cV ls t))
   rw [tD ls h];exact h
  ·have h1:=sE ls (cV ls t)
   by_cases e:(gJ ls (cV ls t)).length=(cV ls t).length
   ·obtain ⟨e1,c1⟩:=h1.2 e
    exact .inl (by show qU ls (gJ ls (cV ls t));rw [e1];exact c1)
   ·exact .inr (by show t+1+1<=(gJ ls (cV ls t)).length;omega)
theorem Ig {n:Nat} {ls:List Ln} (hn:1<=n) (ho:∀ l∈ls,l.Ok n):((cV ls n).length=n)↔J n ls=true:=by
 have M:=su hn ho n
 have hle:=yX M.nd M.lt
 rw [JH hn ho]
 constructor
 ·intro e c hc x hx
  refine M.c c hc x (Classical.byContradiction fun z=>?_)
  have:=yX (n:=n) (xs:=x :: cV ls n) (List.nodup_cons.mpr ⟨z,M.nd⟩) fun y hy=>by
   rcases List.mem_cons.mp hy with rfl | hy
   ·exact hx
   ·exact M.lt y hy
  rw [List.length_cons] at this
  omega
 ·intro h
  have cl:qU ls (cV ls n):=(rO ls n).elim id fun z=>by omega
  have all:∀ x,x<n->x∈cV ls n:=fun x hx=>by
   have:=h (fun x=>if x∈cV ls n then 0 else 1) (fun l hl=>by
    have:=cl l hl
    by_cases c:l.a∈cV ls n
    ·simp [c,this.mp c]
    ·have c2:l.b ∉ cV ls n:=fun z=>c (this.mpr z)
     simp [c,c2]) x hx
   simp [M.z] at this
   exact this
  have hr:(List.range n).length<=(cV ls n).length:=by
   have key:∀ (ys xs:List Nat),ys.Nodup->(∀ y∈ys,y∈xs)->ys.length<=xs.length:=by
    intro ys
    induction ys with
    | nil=>intro xs _ _;simp
    | cons y ys ih=>
     intro xs nd hs
     have nd':=List.nodup_cons.mp nd
     have:=ih (xs.erase y) nd'.2 fun z hz=>by
      have hne:z≠y:=fun e=>nd'.1 (e ▸ hz)
      exact (List.mem_erase_of_ne hne).mpr (hs z (List.mem_cons_of_mem _ hz))
     have hy:=hs y List.mem_cons_self
     rw [List.length_erase_of_mem hy] at this
     have h0:0<xs.length:=List.length_pos_of_mem hy
     rw [List.length_cons]
     omega
   exact key _ _ List.nodup_range fun y hy=>all y (List.mem_range.mp hy)
  rw [List.length_range] at hr
  omega
end Z
namespace Z
open PySem L2 TM PyProof.Rows
theorem rW {m:Nat} {n:Int} {d:D} (h:Th m d) {Q:D->Option D->Prop} (q:Q (.bl (iJ n d)) none):cU [d,.int n] Q:=by
 have hs:=h.s
 dsimp? only [cU,h.fz]
 refine di h ?_
 rcases nJ d with ⟨a,b,c,e,rfl⟩ | ⟨ds,rfl,hd⟩ | hn
 ·obtain ⟨ht,_⟩:=h.of_tup
  have ha:=ht a (by simp);have hb:=ht b (by simp);have hc:=ht c (by simp);have he:=ht e (by simp)
  have er:bZ (.tup [a,b,c,e]) 4 4=true:=rfl
  have i0:ixF (.tup [a,b,c,e]) 0=some (a,none):=aU _ (k:=0) rfl ha.s
  have i1:ixF (.tup [a,b,c,e]) 1=some (b,none):=aU _ (k:=1) rfl hb.s
  have i2:ixF (.tup [a,b,c,e]) 2=some (c,none):=aU _ (k:=2) rfl hc.s
  have i3:ixF (.tup [a,b,c,e]) 3=some (e,none):=aU _ (k:=3) rfl he.s
  have hsh:D.shs [a,b,c,e]=true:=by rw [D.sh] at hs;exact hs
  have hsh2:D.shs [a,b]=true:=by simp [D.shs,ha.s,hb.s]
  have ec:Cg (.tup [a,b,c,e]) none (some 2)=some (.tup [a,b]):=jR _ _ _ hsh
  have ht2:∀ d∈[a,b],Th m d:=fun d hd=>ht d (by simp at hd ⊢;rcases hd with z | z <;> simp [z])
  have q':Q (.bl (au a 0 (n - 1)&&(au b 0 (n - 1)&&(!yq a b&&(au c 1 9&&au e 0 99))))) none:=q
  have ff2:D.fzs [a,b]=[a,b]:=D.shs_fz _ hsh2
  have hl2:([a,b]:List D).length<=2:=Nat.le_refl _
  generalize hy:[a,b]=ys at ec hsh2 ht2 ff2 hl2
  dsimp? only [↓lK,er,hs,ec,hsh,hsh2,ff2]
  refine bR (by omega) ?_
  (try dsimp? only)
  refine dB (fun d=>D.bl (au d 0 (n - 1))) (fun ρ => ∃ x,ρ = [x,some (.int n)]) ⟨_,rfl⟩ ?_ ?_
  ·rintro d hd ρ ⟨x,rfl⟩ P hP
   dsimp? only [(ht2 d hd).fz]
   refine bK (ht2 d hd) ?_
   dsimp? only [(ht2 d hd).s]
   exact hP _ ⟨_,rfl⟩
  rintro ρ ⟨x,rfl⟩
  subst hy
  have eA:mD [.lst true [.bl (au a 0 (n - 1)),.bl (au b 0 (n - 1))]]=some (.bl (au a 0 (n - 1)&&(au b 0 (n - 1)&&true))):=lu true (fun d=>au d 0 (n - 1)) [a,b]
  dsimp? only [eA]
  cases w1:au a 0 (n - 1) with
  | false=>
   rw [w1] at q'
   dsimp? only [Bool.false_and]
   exact q'
  | true=>
   rw [w1,Bool.true_and] at q'
   cases w2:au b 0 (n - 1) with
   | false=>
    rw [w2] at q'
    dsimp? only [Bool.true_and,Bool.false_and]
    exact q'
   | true=>
    rw [w2,Bool.true_and] at q'
    obtain ⟨i,rfl,_⟩:=bV w1
    obtain ⟨j,rfl,_⟩:=bV w2
    have q2:Q (.bl (!(i==j)&&(au c 1 9&&au e 0 99))) none:=q'
    dsimp? only [i0,i1,Bool.true_and,hs,hsh,hc.s,he.s]
    cases hc':(i==j) with
    | true=>
     rw [hc'] at q2
     (try dsimp? only)
     exact q2
    | false=>
     rw [hc',Bool.not_false,Bool.true_and] at q2
     dsimp? only [Bool.not_false,i2,hc.fz,hc.s,he.s]
     refine bK hc ?_
     cases w3:au c 1 9 with
     | false=>
      rw [w3] at q2
      (try dsimp? only)
      exact q2
     | true=>
      rw [w3,Bool.true_and] at q2
      dsimp? only [he.fz,hc.s,he.s,i3]
      refine bK he ?_
      (try dsimp? only)
      exact q2
 ·rw [pq hd] at q
  dsimp? only [show bZ (.tup ds) 4 4=false from kY (n:=4) hd]
  exact q
 ·rw [pA hn] at q
  dsimp? only [cH hn]
  exact q
def tQ (x:Nat):Key:=.inl (x:Int)
def DY (xs:List Nat):D:=.dct true (xs.map tQ) (xs.map fun _=>.bl true)
theorem vd (xs:List Nat) (a:Nat):uZ (xs.map tQ) (.inl (a:Int))=decide (a∈xs):=by
 unfold uZ
 rw [List.any_map]
 by_cases h:a∈xs
 ·rw [decide_eq_true h]
  exact List.any_eq_true.mpr ⟨a,h,decide_eq_true rfl⟩
 ·rw [decide_eq_false h]
  refine List.any_eq_false.mpr fun x hx=>?_
  intro z
  have e:tQ x = .inl (a:Int):=of_decide_eq_true z
  have:(x:Int)=(a:Int):=by unfold tQ at e;injection e
  exact h (by rw [show a=x by omega];exact hx)
theorem Bj (xs:List Nat) (a:Nat):nZ (xs.map tQ) (.inl (a:Int))=(je xs a).map tQ:=by
 unfold nZ je
 rw [vd]
 by_cases h:a∈xs
 ·rw [decide_eq_true h,if_pos rfl,if_pos h]
 ·rw [decide_eq_false h,if_neg (by simp),if_neg h,List.map_append];rfl
theorem Bh (xs:List Nat) (a:Nat):my (xs.map tQ) (xs.map fun _=>D.bl true) (.inl (a:Int)) (.bl true)=(je xs a).map fun _=>D.bl true:=by
 unfold my je
 rw [vd]
 by_cases h:a∈xs
 ·rw [decide_eq_true h,if_pos rfl,if_pos h]
  clear h
  induction xs with
  | nil=>rfl
  | cons x xs ih=>
   rw [List.map_cons,List.map_cons,List.zipWith_cons_cons,ih]
   congr 1
   split <;> rfl
 ·rw [decide_eq_false h,if_neg (by simp),if_neg h,List.map_append];rfl
theorem Kd (xs:List Nat):D.shs (xs.map fun _=>D.bl true)=true:=by
 rw [D.shs_eq,List.all_map];simp [D.sh]
end Z
namespace Z
open PySem L2 TM PyProof.Rows
theorem xJ {n:Nat}:∀ {ls:List D},ls.all (iJ (n:Int))=true -> ∃ ks:List Ln,ls=ks.map Ln.d ∧ ∀ l∈ks,l.Ok n
 | [],_=>⟨[],rfl,fun l h=>by simp at h⟩
 | d :: ls,h=>by
  rw [List.all_cons,Bool.and_eq_true] at h
  obtain ⟨ks,rfl,hk⟩:=xJ h.2
  rcases nJ d with ⟨a,b,c,e,rfl⟩ | ⟨ds,rfl,hd⟩ | hn
  ·have h1:(au a 0 ((n:Int) - 1)&&(au b 0 ((n:Int) - 1)&&(!yq a b&&(au c 1 9&&au e 0 99))))=true:=h.1
   simp only [Bool.and_eq_true] at h1
   obtain ⟨i,rfl,hi⟩:=bV h1.1
   obtain ⟨j,rfl,hj⟩:=bV h1.2.1
   obtain ⟨p,rfl,hp⟩:=bV h1.2.2.2.1
   obtain ⟨q,rfl,hq⟩:=bV h1.2.2.2.2
   have hne:i≠j:=by
    have:=h1.2.2.1
    simpa [yq] using this
   refine ⟨⟨i.toNat,j.toNat,p.toNat,q.toNat⟩ :: ks,?_,fun l hl=>?_⟩
   ·show _=Ln.d _ :: ks.map Ln.d
    unfold Ln.d
    dsimp only
    rw [Int.toNat_of_nonneg (by omega),Int.toNat_of_nonneg (by omega),Int.toNat_of_nonneg (by omega),Int.toNat_of_nonneg (by omega)]
   ·rcases List.mem_cons.mp hl with rfl | hl
    ·have h1':=hi.1;have h2':=hi.2;have h3':=hj.1;have h4':=hj.2;have h5':=hp.1;have h6':=hp.2;have h7':=hq.1;have h8':=hq.2
     refine ⟨?_,?_,?_,⟨?_,?_⟩,?_⟩ <;> dsimp only <;> omega
    ·exact hk l hl
  ·rw [pq hd] at h;cases h.1
  ·rw [pA hn] at h;cases h.1
theorem Ny (d:D):(∃ a b,d = .tup [a,b])∨(∃ ds,d = .tup ds∧ds.length≠2) ∨ ∀ ds,d ≠ .tup ds:=by
 rcases eX d with ⟨ds,rfl⟩ | hn
 ·by_cases h:ds.length=2
  ·match ds,h with
   | [a,b],_=>exact .inl ⟨a,b,rfl⟩
  ·exact .inr (.inl ⟨ds,rfl,h⟩)
 ·exact .inr (.inr hn)
theorem yo {ds:List D} (h:ds.length≠2):bZ (.tup ds) 2 2=false:=by
 show (decide ((2:Int)<=(ds.length:Int))&&decide ((ds.length:Int)<=2))=false
 by_cases c:(2:Int)<=(ds.length:Int)
 ·rw [decide_eq_true c,Bool.true_and];exact decide_eq_false (by omega)
 ·rw [decide_eq_false c];rfl
end Z
namespace Z
open PySem L2 TM PyProof.Rows
theorem Ln.d_inj {l k:Ln} (h:l.d=k.d):l=k:=by
 unfold Ln.d at h
 injection h with h
 injection h with h1 h
 injection h with h2 h
 injection h with h3 h
 injection h with h4 h
 injection h1 with h1
 injection h2 with h2
 injection h3 with h3
 injection h4 with h4
 cases l;cases k
 dsimp only at h1 h2 h3 h4
 congr <;> omega
theorem Ar:∀ {ls ks:List Ln},ls.map Ln.d=ks.map Ln.d->ls=ks
 | [],[],_=>rfl
 | [],k :: ks,h=>by cases h
 | l :: ls,[],h=>by cases h
 | l :: ls,k :: ks,h=>by
  rw [List.map_cons,List.map_cons] at h
  injection h with h1 h2
  rw [Ln.d_inj h1,Ar h2]
open Classical in
noncomputable def netB (d:D):Bool:=decide (∃ n ls,d=dW n ls∧Good n ls)
theorem uE {n:Nat} {ls:List Ln} (G:Good n ls):netB (dW n ls)=true:=by unfold netB;exact @decide_eq_true _ (_) ⟨n,ls,rfl,G⟩
theorem Ba {d:D} (h:netB d=true):∃ n ls,d=dW n ls∧Good n ls:=by unfold netB at h;exact @of_decide_eq_true _ (_) h
theorem lU {d:D} (h:∀ n ls,d=dW n ls->Good n ls->False):netB d=false:=by unfold netB;exact @decide_eq_false _ (_) fun ⟨n,ls,e,G⟩=>h n ls e G
theorem FJ {k:Nat} {ks:List Ln} (h1:1<=k) (h4:k<=4) (hl:ks.length<=6) (ho:∀ l∈ks,l.Ok k):netB (dW k ks)=J k ks:=by
 cases hJ:J k ks with
 | true=>exact uE ⟨h1,h4,hl,ho,hJ⟩
 | false=>
  refine lU fun n ls e G=>?_
  unfold dW dO at e
  injection e with e
  injection e with e1 e
  injection e with e2 e
  injection e1 with e1
  injection e2 with e2
  have:=Ar e2
  subst this
  rw [show n=k by omega] at G
  rw [G.j] at hJ;cases hJ
theorem FT {ds:List D} (h:ds.length≠2):netB (.tup ds)=false:=lU fun n ls e _=>by unfold dW at e;injection e with e;rw [e] at h;exact h rfl
theorem xQ {d:D} (h:∀ ds,d ≠ .tup ds):netB d=false:=lU fun n ls e _=>h _ e
theorem FN {a b:D} (h:au a 1 4=false):netB (.tup [a,b])=false:=lU fun n ls e G=>by
 unfold dW at e
 injection e with e
 injection e with e1 e
 rw [e1] at h
 have h1:=G.n1;have h4:=G.n4
 have:(decide ((1:Int)<=(n:Int))&&decide ((n:Int)<=4))=false:=h
 rw [decide_eq_true (by omega),decide_eq_true (by omega)] at this
 cases this
theorem FP {a b:D} (h:bZ b 0 6=false):netB (.tup [a,b])=false:=lU fun n ls e G=>by
 unfold dW dO at e
 injection e with e
 injection e with e1 e
 injection e with e2 e
 rw [e2,show bZ (.tup (ls.map Ln.d)) 0 6=decide ((ls.map Ln.d).length<=6) from uG _ 6,List.length_map,decide_eq_true G.l] at h
 cases h
theorem xH {n:Nat} {l:Ln} (h:l.Ok n):iJ (n:Int) l.d=true:=by
 have h1:=h.a;have h2:=h.b;have h3:=h.ne;have h4:=h.s;have h5:=h.m
 show ((decide ((0:Int)<=(l.a:Int))&&decide ((l.a:Int)<=(n:Int) - 1))&&((decide ((0:Int)<=(l.b:Int))&&decide ((l.b:Int)<=(n:Int) - 1))&&(!((l.a:Int)==(l.b:Int))&&((decide ((1:Int)<=(l.s:Int))&&decide ((l.s:Int)<=9))&&(decide ((0:Int)<=(l.m:Int))&&decide ((l.m:Int)<=99))))))=true
 have e:((l.a:Int)==(l.b:Int))=false:=by simp only [beq_eq_false_iff_ne,ne_eq];omega
 rw [e,decide_eq_true (by omega),decide_eq_true (by omega),decide_eq_true (by omega),decide_eq_true (by omega),decide_eq_true (by omega),decide_eq_true (by omega),decide_eq_true (by omega),decide_eq_true (by omega)]
 rfl
theorem FQ {k:Int} {ds:List D} (h:ds.all (iJ k)=false):netB (.tup [.int k,.tup ds])=false:=lU fun n ls e G=>by
 unfold dW dO at e
 injection e with e
 injection e with e1 e
 injection e with e2 e
 injection e2 with e2
 injection e1 with e1
 have:ds.all (iJ k)=true:=by
  rw [e2,e1]
  refine List.all_eq_true.mpr fun d hd=>?_
  obtain ⟨l,hl,rfl⟩:=List.mem_map.mp hd
  exact xH (G.o l hl)
 rw [h] at this;cases this
def Ie:cP:=(aD (bD 1 (sC (.dct true [.inl 0] [.bl true])))
 (aD (gU (cG (.val (bH 0 (.val (sC (.int 0)))))) (gN 2)
 (gU (jn (bH 0 (.val (sC (.int 1))))) (gN 3)
 (sIf (fu (tB' (sDo dIn [.val (bH 3 (.val (sC (.int 0)))),.nam 1])) (tB' (sDo dIn [.val (bH 3 (.val (sC (.int 1)))),.nam 1])))
 (aD (mz 1 (sC (.bl true)) (bH 3 (.val (sC (.int 0)))))
 (mz 1 (sC (.bl true)) (bH 3 (.val (sC (.int 1))))))
 (bF))))
 (bI (sDo dEq [.val (sDo wI [.nam 1]),.val (bH 0 (.val (sC (.int 0))))]))))
theorem Ao (l:Ln):ixF l.d 0=some (.int l.a,none):=rfl
theorem Aq (l:Ln):ixF l.d 1=some (.int l.b,none):=rfl
theorem LC {k:Nat} {ks:List Ln} (h1:1<=k) (h4:k<=4) (hl:ks.length<=6) (ho:∀ l∈ks,l.Ok k) {x1 x2 x3:Option D} {E:EndD} (h:∀ ρ,E.rt (.bl (J k ks)) ρ):Ie [some (dW k ks),x1,x2,x3] E:=by
 have p62:(2:Int) ^ 62=4611686018427387904:=by decide
 have e1:(k:Int).toNat=k:=by omega
 dsimp? only [Ie,iB]
 rw [e1]
 refine bR ⟨by omega,by omega,by omega⟩ ?_
 (try dsimp? only)
 refine dN (fun t ρ => ∃ x2 x3,ρ = [some (dW k ks),some (DY (cV ks t)),x2,x3]) 0 ⟨_,_,rfl⟩ ?_ ?_
 ·rintro t d ρ hd ⟨x2,x3,rfl⟩ P' hP'
  rw [Nat.zero_add] at hP' ⊢
  dsimp? only [vo,dO,iU,jr,List.length_map]
  refine bR (by omega) ?_
  (try dsimp? only)
  have M0:=su h1 ho t
  refine dN (fun j ρ => ∃ x2 x3,ρ = [some (dW k ks),some (DY ((ks.take j).foldl dF (cV ks t))),x2,x3]∧Met k ks ((ks.take j).foldl dF (cV ks t))) 0 ⟨_,_,rfl,M0⟩ ?_ ?_
  ·rintro j d ρ hd ⟨x2,x3,rfl,M⟩ P hP
   rw [List.getElem?_map] at hd
   obtain ⟨l,hlk,rfl⟩:=Option.map_eq_some_iff.mp hd
   have hmem:=List.mem_of_getElem? hlk
   have hlo:=ho l hmem
   rw [Nat.zero_add] at hP M ⊢
   have hf:=rG dF (cV ks t) ks j l hlk
   have M2:Met k ks ((ks.take (j+1)).foldl dF (cV ks t)):=by rw [hf];exact M.step hmem hlo
   generalize (ks.take j).foldl dF (cV ks t)=xs at M hf ⊢
   have hxl:=yX M.nd M.lt
   have hs1:(xs.map tQ).length<sizeLine:=by rw [sizeLine_eq,List.length_map];omega
   have hs2:((je xs l.a).map tQ).length<sizeLine:=by
    have:(je xs l.a).length<=xs.length+1:=by unfold je;split <;> simp
    rw [sizeLine_eq,List.length_map];omega
   have eh:(decide (l.a∈xs)||decide (l.b∈xs))=decide (l.a∈xs∨l.b∈xs):=by simp
   have nx:∀ (ys:List Nat),ys=dF xs l -> ∀ x2 x3,P [some (dW k ks),some (DY ys),x2,x3]:=fun ys e x2 x3=>hP _ ⟨_,_,by rw [hf,← e],M2⟩
   have put2:∀ x2:Option D,l.a∈xs∨l.b∈xs->mz 1 (sC (D.bl true)) (bH 3 (Opd.val (sC (D.int 0)))) [some (dW k ks),some (D.dct true (List.map tQ xs) (List.map (fun x=>D.bl true) xs)),x2,some l.d]
     { nx:=fun ρ'=>mz 1 (sC (D.bl true)) (bH 3 (Opd.val (sC (D.int 1)))) ρ' { nx:=P,rt:=E.rt,bk:=P',ct:=P },rt:=E.rt,bk:=P',ct:=P }:=by
    intro x2 hc
    dsimp? only [↓zZ,Ao,Aq,Am,JN,Kd]
    refine bR hs1 ?_
    dsimp? only [↓zZ,Ao,Aq,Am,JN,Kd,Bj,Bh]
    refine bR hs2 ?_
    dsimp? only [Bj,Bh]
    exact nx _ (by unfold dF;rw [if_pos hc]) _ _
   dsimp? only [Ao,Aq,DY,Og,vd]
   refine gf (fun hc=>?_) fun hc=>?_
   ·(try dsimp? only)
    exact put2 _ (.inl hc)
   ·dsimp? only [Ao,Aq,Og,vd]
    refine gf (fun hc2=>?_) fun hc2=>?_
    ·exact put2 _ (.inr hc2)
    ·exact nx _ (by unfold dF;rw [if_neg (fun z=>z.elim hc hc2)]) _ _
  ·rintro ρ ⟨x2,x3,rfl,M⟩
   have ef:0+(ks.map Ln.d).length=ks.length:=by simp
   rw [ef,List.take_length]
   exact hP' _ ⟨_,_,rfl⟩
 ·rintro ρ ⟨x2,x3,rfl⟩
  rw [jV,Nat.zero_add]
  dsimp? only [DY,Kw,iB,List.length_map]
  have e:(((cV ks k).length:Int)==(k:Int))=J k ks:=by
   have:=Ig h1 ho
   cases hJ:J k ks with
   | true=>rw [show (cV ks k).length=k from this.mpr hJ];simp
   | false=>
    simp only [beq_eq_false_iff_ne,ne_eq]
    intro z
    rw [this.mp (by omega)] at hJ;cases hJ
  rw [e]
  exact h _
end Z
namespace Z
open PySem L2 TM PyProof.Rows
theorem xR {m:Nat} {d:D} (h:Th m d):(∃ a b,d = .tup [a,b]∧au a 1 4=false)∨(∃ (k:Nat) (b:D),d = .tup [.int (k:Int),b]∧1<=k∧k<=4∧bZ b 0 6=false) ∨
  (∃ (k:Nat) (ls:List D),d = .tup [.int (k:Int),.tup ls]∧1<=k∧k<=4∧ls.length<=6∧(∀ d∈ls,Th m d)∧ls.all (iJ (k:Int))=false) ∨
  (∃ (k:Nat) (ks:List Ln),d=dW k ks∧1<=k∧k<=4∧ks.length<=6 ∧ ∀ l∈ks,l.Ok k)∨(∃ ds,d = .tup ds∧ds.length≠2) ∨ ∀ ds,d ≠ .tup ds:=by
 rcases Ny d with ⟨a,b,rfl⟩ | h2 | hn
 ·obtain ⟨ht,_⟩:=h.of_tup
  have hb:=ht b (by simp)
  cases w1:au a 1 4 with
  | false=>exact .inl ⟨a,b,rfl,w1⟩
  | true=>
   obtain ⟨n,rfl,hn⟩:=bV w1
   obtain ⟨k,rfl⟩:∃ k:Nat,n=(k:Int):=⟨n.toNat,by omega⟩
   cases w2:bZ b 0 6 with
   | false=>exact .inr (.inl ⟨k,b,rfl,by omega,by omega,w2⟩)
   | true=>
    rcases eX b with ⟨ls,rfl⟩ | hnt
    ·have hl:ls.length<=6:=by
      rw [show bZ (.tup ls) 0 6=decide (ls.length<=6) from uG ls 6] at w2
      exact of_decide_eq_true w2
     obtain ⟨hts,_⟩:=hb.of_tup
     cases ha':ls.all (iJ (k:Int)) with
     | false=>exact .inr (.inr (.inl ⟨k,ls,rfl,by omega,by omega,hl,hts,ha'⟩))
     | true=>
      obtain ⟨ks,rfl,hk⟩:=xJ ha'
      rw [List.length_map] at hl
      exact .inr (.inr (.inr (.inl ⟨k,ks,rfl,by omega,by omega,hl,hk⟩)))
    ·rw [cH hnt] at w2;cases w2
 ·exact .inr (.inr (.inr (.inr (.inl h2))))
 ·exact .inr (.inr (.inr (.inr (.inr hn))))
theorem kj {k:Nat} (h1:1<=k) (h4:k<=4):au (.int (k:Int)) 1 4=true:=by
 show (decide ((1:Int)<=(k:Int))&&decide ((k:Int)<=4))=true
 rw [decide_eq_true (by omega),decide_eq_true (by omega)];rfl
theorem Bs {ls:List D} (h:ls.length<=6):bZ (.tup ls) 0 6=true:=by rw [show bZ (.tup ls) 0 6=decide (ls.length<=6) from uG ls 6,decide_eq_true h]
theorem Gr {m:Nat} {d:D} (h:Th m d) {Q:D->Option D->Prop} (q:Q (.bl (netB d)) none):lL [d] Q:=by
 have hs:=h.s
 dsimp? only [lL,h.fz]
 refine eY h ?_
 rcases xR h with ⟨a,b,rfl,w1⟩ | ⟨k,b,rfl,h1,h4,w2⟩ | ⟨k,ls,rfl,h1,h4,hl,hts,ha⟩ | ⟨k,ks,rfl,h1,h4,hl,hk⟩ | ⟨ds,rfl,hd⟩ | hn
 ·obtain ⟨ht,_⟩:=h.of_tup
  have ha:=ht a (by simp);have hb:=ht b (by simp)
  have er:bZ (.tup [a,b]) 2 2=true:=rfl
  rw [FN w1] at q
  dsimp? only [er,hs,ha.s,hb.s,ha.fz]
  refine bw ha ?_
  dsimp? only [w1]
  exact q
 ·obtain ⟨ht,_⟩:=h.of_tup
  have ha:=ht (.int (k:Int)) (by simp);have hb:=ht b (by simp)
  have er:bZ (.tup [.int (k:Int),b]) 2 2=true:=rfl
  rw [FP w2] at q
  dsimp? only [er,hs,hb.s]
  refine bw ha ?_
  dsimp? only [kj h1 h4,hb.fz,hb.s]
  refine eY hb ?_
  dsimp? only [w2]
  exact q
 ·obtain ⟨ht,_⟩:=h.of_tup
  have ha':=ht (.int (k:Int)) (by simp);have hb:=ht (.tup ls) (by simp)
  have er:bZ (.tup [.int (k:Int),.tup ls]) 2 2=true:=rfl
  have hsl:D.shs ls=true:=(eZ ls).mpr fun d hd=>(hts d hd).s
  have hfl:D.fzs ls=ls:=D.shs_fz _ hsl
  rw [FQ ha] at q
  dsimp? only [er,hsl,hfl]
  refine bw ha' ?_
  dsimp? only [kj h1 h4,hsl,hfl]
  refine eY hb ?_
  dsimp? only [Bs hl,hsl,hfl]
  refine bR (by omega) ?_
  (try dsimp? only)
  refine dB (fun d=>D.bl (iJ (k:Int) d)) (fun ρ => ∃ x,ρ = [x,some (.int (k:Int))]) ⟨_,rfl⟩ ?_ ?_
  ·rintro d hd ρ ⟨x,rfl⟩ P hP
   dsimp? only [(hts d hd).fz]
   refine Fq (hts d hd) ?_
   dsimp? only [(hts d hd).s]
   exact hP _ ⟨_,rfl⟩
  rintro ρ ⟨x,rfl⟩
  dsimp? only [lu true (iJ (k:Int)) ls,ha]
  exact q
 ·have er:bZ (dW k ks) 2 2=true:=rfl
  have hb:Th m (dO ks):=by obtain ⟨ht,_⟩:=h.of_tup;exact ht _ (by simp)
  have hl':(ks.map Ln.d).length<=6:=by rw [List.length_map];exact hl
  rw [FJ h1 h4 hl hk] at q
  dsimp? only [er,gm,jJ]
  unfold dW dO
  dsimp? only [iU,jr]
  refine bw (Th.int m _) ?_
  dsimp? only [kj h1 h4,iU,jr]
  refine eY hb ?_
  unfold dO
  dsimp? only [Bs hl',iU,jr,List.length_map]
  refine bR (by omega) ?_
  (try dsimp? only)
  refine jP Ln.d (fun l=>D.bl ((fun _=>true) l)) (fun ρ => ∃ x,ρ = [x,some (.int k)]) ⟨_,rfl⟩ ?_ ?_
  ·rintro l hlm ρ ⟨x,rfl⟩ P hP
   dsimp? only [Et]
   refine yV (hk l hlm) ?_
   dsimp? only
   exact hP _ ⟨_,rfl⟩
  rintro ρ ⟨x,rfl⟩
  have ha:ks.all (fun _=>true)=true:=by simp
  dsimp? only [lu true (fun _=>true) ks,ha,iU,jr]
  refine tO h4 (by omega) hk ?_
  unfold J at q
  (try dsimp? only)
  exact q
 ·rw [FT hd] at q
  dsimp? only [yo hd]
  exact q
 ·rw [xQ hn] at q
  dsimp? only [cH hn]
  exact q
theorem Ft {m:Nat} {d:D} (h:Th m d) {Q:D->Option D->Prop} (q:Q (.bl (netB d)) none):eQ [d] Q:=by
 have hs:=h.s
 have es:eQ=fnS 1 3 false (aD (sIf (fu (bB (bU (.val (aF 3 aP [.nam 0,.val (sC (.int 2)),.val (sC (.int 2))])))) (fu (bB (bU (.val (aF 3 aJ [.val (bH 0 (.val (sC (.int 0)))),.val (sC (.int 1)),.val (sC (.int 4))])))) (bB (bU (.val (aF 3 aP [.val (bH 0 (.val (sC (.int 1)))),.val (sC (.int 0)),.val (sC (.int 6))]))))))
   (bI (sC (.bl false))) (bF))
   (aD (sIf (bB (bU (.val (sDo mD [.val (gW (jn (bH 0 (.val (sC (.int 1))))) 1 [0] (gN 0) (jN) (aF 2 cU [.nam 0,.val (bH 1 (.val (sC (.int 0))))]))]))))
   (bI (sC (.bl false))) (bF)) Ie)):=by unfold eQ Ie;with_reducible rfl
 rw [es]
 dsimp? only [h.fz]
 refine di h ?_
 rcases xR h with ⟨a,b,rfl,w1⟩ | ⟨k,b,rfl,h1,h4,w2⟩ | ⟨k,ls,rfl,h1,h4,hl,hts,ha⟩ | ⟨k,ks,rfl,h1,h4,hl,hk⟩ | ⟨ds,rfl,hd⟩ | hn
 ·obtain ⟨ht,_⟩:=h.of_tup
  have ha:=ht a (by simp);have hb:=ht b (by simp)
  have er:bZ (.tup [a,b]) 2 2=true:=rfl
  have i0:ixF (.tup [a,b]) 0=some (a,none):=ixF_t0 _ _ ha.s
  rw [FN w1] at q
  dsimp? only [er,hs,ha.s,hb.s,ha.fz,i0]
  refine bK ha ?_
  dsimp? only [w1]
  exact q
 ·obtain ⟨ht,_⟩:=h.of_tup
  have ha:=ht (.int (k:Int)) (by simp);have hb:=ht b (by simp)
  have er:bZ (.tup [.int (k:Int),b]) 2 2=true:=rfl
  have i0:ixF (.tup [.int (k:Int),b]) 0=some (.int (k:Int),none):=ixF_t0 _ _ ha.s
  have i1:ixF (.tup [.int (k:Int),b]) 1=some (b,none):=ixF_t1 _ _ _ hb.s
  rw [FP w2] at q
  dsimp? only [er,hs,hb.s,i0]
  refine bK ha ?_
  dsimp? only [kj h1 h4,hb.fz,hb.s,hs,i1]
  refine di hb ?_
  dsimp? only [w2]
  exact q
 ·obtain ⟨ht,_⟩:=h.of_tup
  have ha':=ht (.int (k:Int)) (by simp);have hb:=ht (.tup ls) (by simp)
  have er:bZ (.tup [.int (k:Int),.tup ls]) 2 2=true:=rfl
  have hsl:D.shs ls=true:=(eZ ls).mpr fun d hd=>(hts d hd).s
  have hfl:D.fzs ls=ls:=D.shs_fz _ hsl
  have i0:ixF (.tup [.int (k:Int),.tup ls]) 0=some (.int (k:Int),none):=ixF_t0 _ _ ha'.s
  have i1:ixF (.tup [.int (k:Int),.tup ls]) 1=some (.tup ls,none):=ixF_t1 _ _ _ hb.s
  rw [FQ ha] at q
  dsimp? only [er,hsl,hfl,i0]
  refine bK ha' ?_
  dsimp? only [kj h1 h4,hsl,hfl,hs,hb.s,i1]
  refine di hb ?_
  dsimp? only [Bs hl,hsl,hfl,i1]
  refine bR (by omega) ?_
  (try dsimp? only)
  refine dB (fun d=>D.bl (iJ (k:Int) d)) (fun ρ => ∃ x,ρ = [x,some (.tup [.int (k:Int),.tup ls])]) ⟨_,rfl⟩ ?_ ?_
  ·rintro d hd ρ ⟨x,rfl⟩ P hP
   dsimp? only [(hts d hd).fz,i0]
   refine rW (hts d hd) ?_
   dsimp? only [(hts d hd).s]
   exact hP _ ⟨_,rfl⟩
  rintro ρ ⟨x,rfl⟩
  dsimp? only [lu true (iJ (k:Int)) ls,ha]
  exact q
 ·have er:bZ (dW k ks) 2 2=true:=rfl
  have hb:Th m (dO ks):=by obtain ⟨ht,_⟩:=h.of_tup;exact ht _ (by simp)
  have hl':(ks.map Ln.d).length<=6:=by rw [List.length_map];exact hl
  rw [FJ h1 h4 hl hk] at q
  dsimp? only [er,gm,jJ,iB]
  refine bK (Th.int m _) ?_
  dsimp? only [kj h1 h4,vo,gm,wX,tu]
  refine di hb ?_
  have e6:bZ (.tup (ks.map Ln.d)) 0 6=true:=Bs hl'
  dsimp? only [e6,vo,dO,iU,jr,List.length_map]
  refine bR (by omega) ?_
  (try dsimp? only)
  refine jP Ln.d (fun l=>D.bl ((fun _=>true) l)) (fun ρ => ∃ x,ρ = [x,some (dW k ks)]) ⟨_,rfl⟩ ?_ ?_
  ·rintro l hlm ρ ⟨x,rfl⟩ P hP
   dsimp? only [Et,iB]
   refine rW (m:=4) ⟨rfl,rfl⟩ ?_
   rw [xH (hk l hlm)]
   dsimp? only
   exact hP _ ⟨_,rfl⟩
  rintro ρ ⟨x,rfl⟩
  have ha:ks.all (fun _=>true)=true:=by simp
  dsimp? only [lu true (fun _=>true) ks,ha]
  exact LC h1 h4 hl hk fun ρ => by (try dsimp? only);exact q
 ·rw [FT hd] at q
  dsimp? only [yo hd]
  exact q
 ·rw [xQ hn] at q
  dsimp? only [cH hn]
  exact q
end Z
namespace Z
open PySem L2 TM PyProof.Rows
def zf:D->Int
 | .tup [.int k,_]=>k
 | _=>0
def Kg (f:D->Bool):D->Bool
 | .tup ds=>ds.all f
 | _=>false
noncomputable def houseB:D->Bool
 | .tup [a,b,c,e]=>netB a&&(bZ b 0 3&&(Kg (bO (zf a)) b&&(cA (zf a) c&&(bZ e 1 3&&Kg (fK (zf a)) e))))
 | _=>false
theorem xj {ds:List D} (h:ds.length≠4):houseB (.tup ds)=false:=by
 unfold houseB
 split
 ·rename_i z;cases z;exact absurd rfl h
 ·rfl
theorem mG {d:D} (h:∀ ds,d ≠ .tup ds):houseB d=false:=by
 unfold houseB
 split
 ·exact absurd rfl (h _)
 ·rfl
theorem qP {d:D} {lo hi:Int} (h:bZ d lo hi=true):∃ ds:List D,d = .tup ds∧(ds.length:Int)<=hi:=by
 rcases eX d with ⟨ds,rfl⟩ | hn
 ·have h':(decide (lo<=(ds.length:Int))&&decide ((ds.length:Int)<=hi))=true:=h
  rw [Bool.and_eq_true] at h'
  exact ⟨ds,rfl,of_decide_eq_true h'.2⟩
 ·rw [cH hn] at h;cases h
theorem Cv {m:Nat} {d:D} (h:Th m d) {Q:D->Option D->Prop} (q:Q (.bl (houseB d)) none):gk [d] Q:=by
 have hs:=h.s
 dsimp? only [gk,h.fz]
 refine eY h ?_
 rcases nJ d with ⟨a,b,c,e,rfl⟩ | ⟨ds,rfl,hd⟩ | hn
 ·obtain ⟨ht,_⟩:=h.of_tup
  have ta:=ht a (by simp);have tb:=ht b (by simp);have tc:=ht c (by simp);have te:=ht e (by simp)
  have er:bZ (.tup [a,b,c,e]) 4 4=true:=rfl
  dsimp? only [er,hs,ta.s,tb.s,tc.s,te.s,ta.fz,tb.fz,tc.fz,te.fz]
  refine Gr ta ?_
  cases w1:netB a with
  | false=>
   rw [show houseB (.tup [a,b,c,e])=false by simp [houseB,w1]] at q
   (try dsimp? only)
   exact q
  | true=>
   dsimp? only [ta.s,tb.s,tc.s,te.s,ta.fz,tb.fz,tc.fz,te.fz]
   refine eY tb ?_
   cases w2:bZ b 0 3 with
   | false=>
    rw [show houseB (.tup [a,b,c,e])=false by simp [houseB,w2]] at q
    (try dsimp? only)
    exact q
   | true=>
    dsimp? only [ta.s,tb.s,tc.s,te.s,ta.fz,tb.fz,tc.fz,te.fz]
    refine eY te ?_
    cases w3:bZ e 1 3 with
    | false=>
     rw [show houseB (.tup [a,b,c,e])=false by simp [houseB,w3]] at q
     (try dsimp? only)
     exact q
    | true=>
     obtain ⟨n,ls,rfl,G⟩:=Ba w1
     obtain ⟨ws,rfl,hws⟩:=qP w2
     obtain ⟨es,rfl,hes⟩:=qP w3
     obtain ⟨tws,_⟩:=tb.of_tup
     obtain ⟨tes,_⟩:=te.of_tup
     have sw:D.shs ws=true:=(eZ ws).mpr fun d hd=>(tws d hd).s
     have se:D.shs es=true:=(eZ es).mpr fun d hd=>(tes d hd).s
     have fw:D.fzs ws=ws:=D.shs_fz _ sw
     have fe:D.fzs es=es:=D.shs_fz _ se
     have q':Q (.bl (netB (dW n ls)&&(bZ (.tup ws) 0 3&&(ws.all (bO (n:Int))&&(cA (n:Int) c&&(bZ (.tup es) 1 3&&es.all (fK (n:Int)))))))) none:=q
     rw [w1,w2,w3,Bool.true_and,Bool.true_and,Bool.true_and] at q'
     dsimp? only [gm,jJ,iB,sw,se,fw,fe]
     refine bR (by omega) ?_
     (try dsimp? only)
     refine dB (fun d=>D.bl (bO (n:Int) d)) (fun ρ => ∃ x,ρ = [x,some (.int (n:Int))]) ⟨_,rfl⟩ ?_ ?_
     ·rintro d hd ρ ⟨x,rfl⟩ P hP
      dsimp? only [(tws d hd).fz]
      refine Hk (tws d hd) ?_
      dsimp? only [(tws d hd).s]
      exact hP _ ⟨_,rfl⟩
     rintro ρ ⟨x,rfl⟩
     dsimp? only [lu true (bO (n:Int)) ws]
     cases w4:ws.all (bO (n:Int)) with
     | false=>
      rw [w4] at q'
      (try dsimp? only)
      exact q'
     | true=>
      rw [w4,Bool.true_and] at q'
      dsimp? only [gm,jJ,iB,sw,se,fw,fe,tc.s,tc.fz]
      refine Du tc ?_
      cases w5:cA (n:Int) c with
      | false=>
       rw [w5] at q'
       (try dsimp? only)
       exact q'
      | true=>
       rw [w5,Bool.true_and] at q'
       dsimp? only [gm,jJ,iB,sw,se,fw,fe,tc.s,tc.fz]
       refine bR (by omega) ?_
       (try dsimp? only)
       refine dB (fun d=>D.bl (fK (n:Int) d)) (fun ρ => ∃ x,ρ = [x,some (.int (n:Int))]) ⟨_,rfl⟩ ?_ ?_
       ·rintro d hd ρ ⟨x,rfl⟩ P hP
        dsimp? only [(tes d hd).fz]
        refine Dz (tes d hd) ?_
        dsimp? only [(tes d hd).s]
        exact hP _ ⟨_,rfl⟩
       rintro ρ ⟨x,rfl⟩
       dsimp? only [lu true (fK (n:Int)) es]
       exact q'
 ·rw [xj hd] at q
  dsimp? only [sW hd]
  exact q
 ·rw [mG hn] at q
  dsimp? only [cH hn]
  exact q
theorem LR (n:Nat) (ls:List Ln):dIx [dW n ls,.int 0]=some (.int n):=Hy _ (Kh _ _) rfl
theorem rR {m:Nat} {d:D} (h:Th m d) {Q:D->Option D->Prop} (q:Q (.bl (houseB d)) none):bY [d] Q:=by
 have hs:=h.s
 dsimp? only [bY,h.fz]
 refine di h ?_
 rcases nJ d with ⟨a,b,c,e,rfl⟩ | ⟨ds,rfl,hd⟩ | hn
 ·obtain ⟨ht,_⟩:=h.of_tup
  have ta:=ht a (by simp);have tb:=ht b (by simp);have tc:=ht c (by simp);have te:=ht e (by simp)
  have er:bZ (.tup [a,b,c,e]) 4 4=true:=rfl
  have i0:ixF (.tup [a,b,c,e]) 0=some (a,none):=aU _ (k:=0) rfl ta.s
  have i1:ixF (.tup [a,b,c,e]) 1=some (b,none):=aU _ (k:=1) rfl tb.s
  have i2:ixF (.tup [a,b,c,e]) 2=some (c,none):=aU _ (k:=2) rfl tc.s
  have i3:ixF (.tup [a,b,c,e]) 3=some (e,none):=aU _ (k:=3) rfl te.s
  dsimp? only [er,hs,i0,ta.s,tb.s,tc.s,te.s,ta.fz]
  refine Ft ta ?_
  cases w1:netB a with
  | false=>
   rw [show houseB (.tup [a,b,c,e])=false by simp [houseB,w1]] at q
   (try dsimp? only)
   exact q
  | true=>
   obtain ⟨n,ls,rfl,G⟩:=Ba w1
   dsimp? only [hs,i0,i1,LR,gm,jJ,tb.s,tc.s,te.s,tb.fz]
   refine di tb ?_
   cases w2:bZ b 0 3 with
   | false=>
    rw [show houseB (.tup [dW n ls,b,c,e])=false by simp [houseB,w2]] at q
    (try dsimp? only)
    exact q
   | true=>
    obtain ⟨ws,rfl,hws⟩:=qP w2
    obtain ⟨tws,_⟩:=tb.of_tup
    have sw:D.shs ws=true:=(eZ ws).mpr fun d hd=>(tws d hd).s
    have fw:D.fzs ws=ws:=D.shs_fz _ sw
    dsimp? only [hs,i0,i1,i2,i3,sw,fw,gm,jJ,tc.s,te.s]
    refine bR (by omega) ?_
    (try dsimp? only)
    refine dB (fun d=>D.bl (bO (n:Int) d)) (fun ρ => ∃ x,ρ = [x,some (.int (n:Int))]) ⟨_,rfl⟩ ?_ ?_
    ·rintro d hd ρ ⟨x,rfl⟩ P hP
     dsimp? only [(tws d hd).fz]
     refine CV (tws d hd) ?_
     dsimp? only [(tws d hd).s]
     exact hP _ ⟨_,rfl⟩
    rintro ρ ⟨x,rfl⟩
    have q':Q (.bl (netB (dW n ls)&&(bZ (.tup ws) 0 3&&(ws.all (bO (n:Int))&&(cA (n:Int) c&&(bZ e 1 3&&Kg (fK (n:Int)) e)))))) none:=q
    rw [w1,w2,Bool.true_and,Bool.true_and] at q'
    dsimp? only [lu true (bO (n:Int)) ws]
    cases w4:ws.all (bO (n:Int)) with
    | false=>
     rw [w4] at q'
     (try dsimp? only)
     exact q'
    | true=>
     rw [w4,Bool.true_and] at q'
     dsimp? only [hs,i2,sw,fw,gm,jJ,tc.s,tc.fz,te.s]
     refine za tc ?_
     cases w5:cA (n:Int) c with
     | false=>
      rw [w5] at q'
      (try dsimp? only)
      exact q'
     | true=>
      rw [w5,Bool.true_and] at q'
      dsimp? only [hs,i3,sw,fw,gm,jJ,tc.s,te.s,te.fz]
      refine di te ?_
      cases w3:bZ e 1 3 with
      | false=>
       rw [w3] at q'
       (try dsimp? only)
       exact q'
      | true=>
       obtain ⟨es,rfl,hes⟩:=qP w3
       obtain ⟨tes,_⟩:=te.of_tup
       have se:D.shs es=true:=(eZ es).mpr fun d hd=>(tes d hd).s
       have fe:D.fzs es=es:=D.shs_fz _ se
       rw [w3,Bool.true_and] at q'
       have q2:Q (.bl (es.all (fK (n:Int)))) none:=q'
       dsimp? only [hs,i3,sw,fw,se,fe,gm,jJ,tc.s]
       refine bR (by omega) ?_
       (try dsimp? only)
       refine dN (fun k ρ => ∃ x,ρ = [some (.tup [dW n ls,.tup ws,c,.tup es]),some (.int (n:Int)),x] ∧ ∀ j d,j<k->es[j]? = some d->fK (n:Int) d=true) 0 ⟨_,rfl,fun j d hj=>by omega⟩ ?_ ?_
       ·rintro k d ρ hd ⟨x,rfl,hall⟩ P hP
        rw [Nat.zero_add] at hP hall
        have hmem:=List.mem_of_getElem? hd
        have td:=tes d hmem
        have bad:fK (n:Int) d=false->Q (.bl false) none:=fun z=>by
         have:es.all (fK (n:Int))=false:=List.all_eq_false.mpr ⟨d,hmem,by rw [z];simp⟩
         rw [this] at q2;exact q2
        dsimp? only [td.s,td.fz]
        refine di td ?_
        rcases eX d with ⟨xs,rfl⟩ | hn
        ·obtain ⟨txs,_⟩:=td.of_tup
         have sx:D.shs xs=true:=(eZ xs).mpr fun d hd=>(txs d hd).s
         have fx:D.fzs xs=xs:=D.shs_fz _ sx
         have ew:fK (n:Int) (.tup xs)=(decide (xs.length<=3)&&xs.all (eO (n:Int))):=rfl
         rw [show bZ (.tup xs) 0 3=decide (xs.length<=3) from uG xs 3]
         by_cases c3:xs.length<=3
         ·rw [decide_eq_true c3,Bool.true_and] at ew
          dsimp? only [decide_eq_true c3,sx,fx]
          refine bR (by omega) ?_
          (try dsimp? only)
          refine dB (fun d=>D.bl (eO (n:Int) d)) (fun ρ => ∃ x,ρ = [x,some (.int (n:Int))]) ⟨_,rfl⟩ ?_ ?_
          ·rintro d hd ρ ⟨x,rfl⟩ P hP
           dsimp? only [(txs d hd).fz]
           refine CT (txs d hd) ?_
           dsimp? only [(txs d hd).s]
           exact hP _ ⟨_,rfl⟩
          rintro ρ ⟨x,rfl⟩
          dsimp? only [lu true (eO (n:Int)) xs]
          cases w6:xs.all (eO (n:Int)) with
          | false=>
           (try dsimp? only)
           exact bad (by rw [ew,w6])
          | true=>
           (try dsimp? only)
           refine hP _ ⟨_,rfl,fun j d' hj hd'=>?_⟩
           by_cases ej:j=k
           ·subst ej
            rw [hd] at hd'
            cases hd'
            rw [ew,w6]
           ·exact hall j d' (by omega) hd'
         ·dsimp? only [decide_eq_false c3]
          exact bad (by rw [ew,decide_eq_false c3,Bool.false_and])
        ·dsimp? only [cH hn]
         exact bad (tL hn)
       rintro ρ ⟨x,rfl,hall⟩
       have:es.all (fK (n:Int))=true:=List.all_eq_true.mpr fun d hd=>by
        obtain ⟨j,hj,rfl⟩:=List.mem_iff_getElem.mp hd
        exact hall j _ (by omega) (List.getElem?_eq_getElem hj)
       rw [this] at q2
       (try dsimp? only)
       exact q2
 ·rw [xj hd] at q
  dsimp? only [sW hd]
  exact q
 ·rw [mG hn] at q
  dsimp? only [cH hn]
  exact q
end Z
namespace Z
open PySem L2 TM PyProof.Rows
structure PcS (x:Nat×Nat):Prop where
 a:1<=x.1
 b:x.1<=20
 c:x.2<=99
structure WkS (n:Nat) (w:Wk):Prop where
 p:w.p<n
 a:w.a<=20
 b:w.b<=99
 ps:(∃ x,w.ps=[x]∧PcS x) ∨ ∃ x y,w.ps=[x,y]∧PcS x∧PcS y∧x.2<=y.2
 c:w.c<=99
 g:1<=w.g∧w.g<=2
 e:1<=w.e∧w.e<=2
theorem tM {bag:D} {n a b c r1:Nat} {ps:List (Nat×Nat)} (hB:Bag bag) (hn:0<n) (ha:a<=20) (hb:b<=99) (hps:(∃ x,ps=[x]∧PcS x) ∨ ∃ x y,ps=[x,y]∧PcS x∧PcS y∧x.2<=y.2) {Q:D->Option D->Prop} (h:∀ (bag':D) (w:Wk),Bag bag'->WkS n w->Q w.d (some bag')) :
  oM [some bag,some (.int n),some (.int r1),some (.int a),some (.int b),some (.int c),some (.lst true (ps.map pcD)),none,none] { nx:=fun ρ => Q .non (slot ρ 0),rt:=fun d ρ => Q d (slot ρ 0) }:=by
 dsimp? only [oM]
 refine aV hB (by decide) fun bag1 q1 hB1 k1=>?_
 obtain ⟨m3,hm3,ix3⟩:=pk3 100 21 1 q1 (by omega)
 dsimp? only [hB1.clean,ix3]
 refine aV hB1 (by omega) fun bag2 q2 hB2 k2=>?_
 dsimp? only [hB2.clean]
 refine aV hB2 (by decide) fun bag3 q3 hB3 k3=>?_
 dsimp? only [hB3.clean]
 refine aV hB3 (by decide) fun bag4 q4 hB4 k4=>?_
 dsimp? only [hB4.clean]
 refine aV hB4 (by decide) fun bag5 q5 hB5 k5=>?_
 dsimp? only [hB5.clean]
 refine aV hB5 (by omega) fun bag6 q6 hB6 k6=>?_
 dsimp? only [hB6.clean,GK]
 have e1:(1:Int)+(q3:Int)=((1+q3:Nat):Int):=by omega
 have e2:(1:Int)+(q4:Int)=((1+q4:Nat):Int):=by omega
 rw [e1,e2]
 exact h bag6 ⟨q6,a,b,ps,q2,1+q3,1+q4,(q5:Int)==1⟩ hB6 ⟨by show q6<n;omega,ha,hb,hps,by show q2<=99;omega,by show 1<=1+q3∧1+q3<=2;omega,by show 1<=1+q4∧1+q4<=2;omega⟩
theorem vy {bag:D} {n:Nat} (hB:Bag bag) (hn:0<n) {Q:D->Option D->Prop} (h:∀ (bag':D) (w:Wk),Bag bag'->WkS n w->Q w.d (some bag')):gr [bag,.int n] Q:=by
 have es:gr=fnS 2 7 true (aD (bD 2 (aA 2 aq 0 [.val (sC (.int 2))])) (aD (bD 3 (aA 2 aq 0 [.val (sDo dIx [.val (fj [.val (sC (.int 21)),.val (sC (.int 4))]),.nam 2])])) (aD (bD 4 (aA 2 aq 0 [.val (sDo dIx [.val (fj [.val (sC (.int 100)),.val (sC (.int 6))]),.nam 2])])) (aD (bD 5 (aA 2 aq 0 [.val (sDo dIx [.val (fj [.val (sC (.int 100)),.val (sC (.int 6))]),.nam 2])])) (aD (bD 6 (fj [.val (eH [.val (sDo cC [.val (sC (.int 1)),.val (aA 2 aq 0 [.val (sC (.int 20))])]),.val (cu 5)])])) (aD (sIf (tB' (sDo dEq [.val (aA 2 aq 0 [.val (sC (.int 2))]),.val (sC (.int 1))])) (jW (lW gG 6 [.val (eH [.val (sDo cC [.val (sC (.int 1)),.val (aA 2 aq 0 [.val (sC (.int 20))])]),.val (sDo cC [.nam 5,.val (aA 2 aq 0 [.val (sDo jH [.val (sC (.int 100)),.nam 5])])])])])) (bF))  oM)))))):=by unfold gr oM;with_reducible rfl
 rw [es]
 dsimp? only
 refine aV hB (by decide) fun bag1 r1 hB1 h1=>?_
 obtain ⟨m1,hm1,ix1⟩:=pkI 21 4 r1 (by omega)
 obtain ⟨m2,hm2,ix2⟩:=pkI 100 6 r1 (by omega)
 dsimp? only [hB1.clean,ix1]
 refine aV hB1 (by omega) fun bag2 a hB2 ha=>?_
 dsimp? only [hB2.clean,ix2]
 refine aV hB2 (by omega) fun bag3 b hB3 hb=>?_
 dsimp? only [hB3.clean,ix2]
 refine aV hB3 (by omega) fun bag4 c hB4 hc=>?_
 dsimp? only [hB4.clean]
 refine aV hB4 (by decide) fun bag5 r5 hB5 h5=>?_
 dsimp? only [hB5.clean]
 refine aV hB5 (by decide) fun bag6 r6 hB6 h6=>?_
 have ec:(1:Int)+(r5:Int)=((1+r5:Nat):Int):=by omega
 rw [ec]
 dsimp? only [hB6.clean]
 refine oZ (fun hc=>?_) fun hc=>?_
 ·dsimp? only [hB6.clean]
  refine aV hB6 (by decide) fun bag7 r7 hB7 h7=>?_
  dsimp? only [hB7.clean]
  refine aV hB7 (by omega) fun bag8 r8 hB8 h8=>?_
  have e1:(1:Int)+(r7:Int)=((1+r7:Nat):Int):=by omega
  have e2:(c:Int)+(r8:Int)=((c+r8:Nat):Int):=by omega
  rw [e1]
  dsimp? only [hB8.clean,e2,Lx (ds:=[D.tup [.int ((1+r5:Nat):Int),.int (c:Int)]]) (d:=.tup [.int ((1+r7:Nat):Int),.int ((c+r8:Nat):Int)]) (by simp)]
  exact tM (ps:=[(1+r5,c),(1+r7,c+r8)]) hB8 hn (by omega) (by omega) (.inr ⟨_,_,rfl,⟨by show 1<=1+r5;omega,by show 1+r5<=20;omega,by show c<=99;omega⟩,⟨by show 1<=1+r7;omega,by show 1+r7<=20;omega,by show c+r8<=99;omega⟩,by show c<=c+r8;omega⟩) h
 ·(try dsimp? only)
  exact tM (ps:=[(1+r5,c)]) hB6 hn (by omega) (by omega) (.inl ⟨_,rfl,⟨by show 1<=1+r5;omega,by show 1+r5<=20;omega,by show c<=99;omega⟩⟩) h
theorem tU {bag:D} {n:Nat} (hB:Bag bag) (hn:0<n) {Q:D->Option D->Prop} (h:∀ (bag':D) (o:Option Sr),Bag bag'->(∀ s,o=some s->s.p<n∧(1<=s.a∧s.a<=2)∧s.b<=s.a∧(1<=s.c∧s.c<=20)∧s.g<=s.c)->Q (stD o) (some bag')):gM [bag,.int n] Q:=by
 dsimp? only [gM]
 refine aV hB (by decide) fun bag1 r1 hB1 h1=>?_
 dsimp? only [hB1.clean]
 refine oZ (fun hc=>?_) fun hc=>?_
 ·(try dsimp? only)
  exact h bag1 none hB1 fun s e=>by cases e
 ·dsimp? only [hB1.clean]
  refine aV hB1 (by decide) fun bag2 a hB2 ha=>?_
  dsimp? only [hB2.clean]
  refine aV hB2 (by decide) fun bag3 c hB3 hcc=>?_
  dsimp? only [hB3.clean]
  refine aV hB3 (by omega) fun bag4 p hB4 hp=>?_
  dsimp? only [hB4.clean]
  refine aV hB4 (by omega) fun bag5 b hB5 hb=>?_
  dsimp? only [hB5.clean]
  refine aV hB5 (by omega) fun bag6 g hB6 hg=>?_
  dsimp? only [hB6.clean]
  have e1:(1:Int)+(a:Int)=((1+a:Nat):Int):=by omega
  have e2:(1:Int)+(c:Int)=((1+c:Nat):Int):=by omega
  rw [e1,e2]
  exact h bag6 (some ⟨p,1+a,b,1+c,g⟩) hB6 fun s e=>by cases e;exact ⟨by show p<n;omega,by show 1<=1+a∧1+a<=2;omega,by show b<=1+a;omega,by show 1<=1+c∧1+c<=20;omega,by show g<=1+c;omega⟩
theorem Ih {r m q:Nat} (hr:r<4) (hi:dIx [.lst true [.int 100,.int 21,.int 1,.int 7],.int (r:Int)]=some (.int (m:Int))) (hq:q<m):∃ t:Nat,(q:Int)+99*(if ((r:Int)==2)=true then 1 else 0)=(t:Int)∧t<=99:=by
 match r,hr with
 | 0,_=>have e:D.int 100=D.int (m:Int):=Option.some.inj hi;injection e with e;exact ⟨q,by simp,by omega⟩
 | 1,_=>have e:D.int 21=D.int (m:Int):=Option.some.inj hi;injection e with e;exact ⟨q,by simp,by omega⟩
 | 2,_=>have e:D.int 1=D.int (m:Int):=Option.some.inj hi;injection e with e;exact ⟨q+99,by simp,by omega⟩
 | 3,_=>have e:D.int 7=D.int (m:Int):=Option.some.inj hi;injection e with e;exact ⟨q,by simp,by omega⟩
 | r+4,h=>omega
theorem lZ {bag:D} {n a b:Nat} (hB:Bag bag) (ha:a<n) (hb:b<n) (hne:a≠b) {Q:D->Option D->Prop} (h:∀ (bag':D) (l:Ln),Bag bag'->l.Ok n->(l.a=a∧l.b=b∨l.a=b∧l.b=a)->Q l.d (some bag')):cQ [bag,.int a,.int b] Q:=by
 dsimp? only [cQ]
 refine aV hB (by decide) fun bag1 r1 hB1 h1=>?_
 obtain ⟨m',hm,ix⟩:=pk4 100 21 1 7 r1 (by omega)
 obtain ⟨m,rfl⟩:∃ m:Nat,m'=(m:Int):=⟨m'.toNat,by omega⟩
 dsimp? only [hB1.clean,ix]
 refine aV hB1 (by omega) fun bag2 q hB2 hq=>?_
 have cb1:lq 99 (if ((r1:Int)==2)=true then 1 else 0)=true:=cb (m:=7) (n:=5) (nj (m:=128) (by decide) (by decide)) (nj (m:=32) (by split <;> decide) (by decide)) (by decide)
 obtain ⟨t,et,ht⟩:=Ih (r:=r1) (m:=m) (q:=q) (by omega) ix (by omega)
 dsimp? only [hB2.clean,cb1,et]
 refine aV hB2 (by decide) fun bag3 r3 hB3 h3=>?_
 obtain ⟨u,v,ix3,huv⟩:∃ u v:Nat,dIx [.lst true [.tup [.int a,.int b],.tup [.int b,.int a]],.int (r3:Int)]=some (.tup [.int u,.int v])∧(u=a∧v=b∨u=b∧v=a):=by
  match r3,h3 with
  | 0,_=>exact ⟨a,b,rfl,.inl ⟨rfl,rfl⟩⟩
  | 1,_=>exact ⟨b,a,rfl,.inr ⟨rfl,rfl⟩⟩
  | r+2,h=>omega
 dsimp? only [hB3.clean,ix3]
 refine aV hB3 (by decide) fun bag4 r4 hB4 h4=>?_
 have e4:(1:Int)+(r4:Int)=((1+r4:Nat):Int):=by omega
 dsimp? only [hB4.clean,e4]
 refine h bag4 ⟨u,v,1+r4,t⟩ hB4 ⟨?_,?_,?_,?_,ht⟩ huv
 ·show u<n;omega
 ·show v<n;omega
 ·show u≠v;omega
 ·show 1<=1+r4∧1+r4<=9;omega
theorem Av {ls:List Ln} {l:Ln} {p:Nat}:(ls.map Ln.d).take p++l.d :: (ls.map Ln.d).drop p=(ls.take p++l :: ls.drop p).map Ln.d:=by rw [List.map_append,List.map_cons,List.map_take,List.map_drop]
theorem nU {ls:List Ln} {l x:Ln} {p:Nat}:x∈ls.take p++l :: ls.drop p↔x∈ls∨x=l:=by
 rw [List.mem_append,List.mem_cons]
 constructor
 ·rintro (z | z | z)
  ·exact .inl (List.mem_of_mem_take z)
  ·exact .inr z
  ·exact .inl (List.mem_of_mem_drop z)
 ·rintro (z | z)
  ·rw [← List.take_append_drop p ls] at z
   exact (List.mem_append.mp z).imp id .inr
  ·exact .inr (.inl z)
theorem An {ls:List Ln} {l:Ln} {p:Nat} (h:p<=ls.length):(ls.take p++l :: ls.drop p).length=ls.length+1:=by
 rw [List.length_append,List.length_cons,List.length_take,List.length_drop];omega
theorem uF {bag:D} {n u:Nat} (hB:Bag bag) (hn1:1<=n) (hn4:n<=4) (hu:u<=7 - n) (hnu:1<n∨u=0) {Q:D->Option D->Prop} (h:∀ (bag':D) (n:Nat) (ls:List Ln),Bag bag'->Good n ls->Q (dW n ls) (some bag')) :
  qM [some bag,some (.int n),some (.int u),none,none,none,none,none] { nx:=fun ρ => Q .non (slot ρ 0),rt:=fun d ρ => Q d (slot ρ 0) }:=by
 have p62:(2:Int) ^ 62=4611686018427387904:=by decide
 have e1:((n:Int) - 1).toNat=n - 1:=by omega
 have e2:(u:Int).toNat=u:=by omega
 dsimp? only [qM]
 rw [e1]
 refine bR ⟨by omega,by omega,by omega,by omega,by omega⟩ ?_
 (try dsimp? only)
 refine dN (fun k ρ => ∃ (bag:D) (ls:List Ln) (x4 x5:Option D),ρ = [some bag,some (.int n),some (.int u),some (.lst true (ls.map Ln.d)),x4,x5,none,none]∧Bag bag∧ls.length=k∧(∀ l∈ls,l.Ok n) ∧ ∀ p,1<=p->p<1+k -> ∃ l∈ls,∃ q,q<p∧(l.a=p∧l.b=q∨l.a=q∧l.b=p)) 0 ⟨bag,[],_,_,rfl,hB,rfl,fun l h=>by simp at h,fun p h1 h2=>by omega⟩ ?_ ?_
 ·rintro k d ρ hd ⟨bag,ls,x4,x5,rfl,hB,hl,ho,ht⟩ P hP
  obtain ⟨hk,rfl⟩:=jf hd
  rw [Nat.zero_add] at hl ht
  have ec:(1:Int)+(k:Int)=((1+k:Nat):Int):=by omega
  rw [ec]
  dsimp? only [List.length_map]
  refine aV hB (by omega) fun bag2 p hB2 hp=>?_
  dsimp? only [hB2.clean]
  refine aV hB2 (by omega) fun bag3 q hB3 hq=>?_
  dsimp? only [hB3.clean]
  refine lZ (n:=n) hB3 (a:=q) (b:=1+k) (by omega) (by omega) (by omega) fun bag4 l hB4 hl1 hab=>?_
  dsimp? only [hB4.clean,rA,qi (ds:=ls.map Ln.d) (a:=p) (d:=l.d) (by rw [List.length_map];omega) (by rw [List.length_map];omega),Av]
  refine hP _ ⟨bag4,ls.take p++l :: ls.drop p,_,_,rfl,hB4,by rw [An (by omega)];omega,fun l' h'=>?_,fun r h1 h2=>?_⟩
  ·rcases nU.mp h' with z | z
   ·exact ho l' z
   ·rw [z];exact hl1
  ·by_cases e:r=1+k
   ·exact ⟨l,nU.mpr (.inr rfl),q,by omega,by rw [e];rcases hab with ⟨z1,z2⟩ | ⟨z1,z2⟩ <;> simp [z1,z2]⟩
   ·obtain ⟨l',h',q',hq',z⟩:=ht r h1 (by omega)
    exact ⟨l',nU.mpr (.inl h'),q',hq',z⟩
 rintro ρ ⟨bag2,ls,x4,x5,rfl,hB2,hl,ho,ht⟩
 rw [jV,Nat.zero_add] at hl ht
 have hcn:Cn n ls:=JB fun p h1 h2=>ht p h1 (by omega)
 dsimp? only
 rw [e2]
 refine bR ⟨by omega,by omega,by omega⟩ ?_
 (try dsimp? only)
 refine dN (fun k ρ => ∃ (bag:D) (ls:List Ln) (x4 x5 x6 x7:Option D),ρ = [some bag,some (.int n),some (.int u),some (.lst true (ls.map Ln.d)),x4,x5,x6,x7]∧Bag bag∧ls.length=n - 1+k∧(∀ l∈ls,l.Ok n)∧Cn n ls) 0 ⟨bag2,ls,_,_,_,_,rfl,hB2,hl,ho,hcn⟩ ?_ ?_
 ·rintro k d ρ hd ⟨bag,ls,x4,x5,x6,x7,rfl,hB,hl,ho,hcn⟩ P hP
  obtain ⟨hk,rfl⟩:=jf hd
  rw [Nat.zero_add] at hl
  have hn0:(n:Int)≠0:=by omega
  dsimp? only [List.length_map]
  refine aV hB (by omega) fun bag2 p hB2 hp=>?_
  dsimp? only [hB2.clean]
  refine aV hB2 (by omega) fun bag3 q hB3 hq=>?_
  dsimp? only [hB3.clean]
  refine aV hB3 (by omega) fun bag4 v hB4 hv=>?_
  obtain ⟨w,ew,hw,hwo⟩:∃ w:Nat,((q:Int)+1+(v:Int)).fmod (n:Int)=(w:Int)∧w<n∧q≠w:=by
   refine ⟨(q+1+v) % n,?_,Nat.mod_lt _ (by omega),?_⟩
   ·rw [show (q:Int)+1+(v:Int)=((q+1+v:Nat):Int) by omega,Int.fmod_eq_emod_of_nonneg _ (by omega),Int.natCast_emod]
   ·by_cases c:q+1+v<n
    ·rw [Nat.mod_eq_of_lt c];omega
    ·rw [Nat.mod_eq_sub_mod (by omega),Nat.mod_eq_of_lt (by omega)];omega
  dsimp? only [hB4.clean,hn0,ew]
  refine lZ (n:=n) hB4 (a:=q) (b:=w) (by omega) hw hwo fun bag5 l hB5 hl1 _=>?_
  dsimp? only [hB5.clean,rA,qi (ds:=ls.map Ln.d) (a:=p) (d:=l.d) (by rw [List.length_map];omega) (by rw [List.length_map];omega),Av]
  refine hP _ ⟨bag5,ls.take p++l :: ls.drop p,_,_,_,_,rfl,hB5,by rw [An (by omega)];omega,fun l' h'=>?_,hcn.more fun l' h'=>nU.mpr (.inl h')⟩
  rcases nU.mp h' with z | z
  ·exact ho l' z
  ·rw [z];exact hl1
 rintro ρ ⟨bag3,ls,x4,x5,x6,x7,rfl,hB3,hl,ho,hcn⟩
 rw [jV,Nat.zero_add] at hl
 dsimp? only [iU]
 exact h bag3 n ls hB3 ⟨hn1,hn4,by omega,ho,(JH hn1 ho).mpr hcn⟩
theorem vp {bag:D} (hB:Bag bag) {Q:D->Option D->Prop} (h:∀ (bag':D) (n:Nat) (ls:List Ln),Bag bag'->Good n ls->Q (dW n ls) (some bag')):fM [bag] Q:=by
 have es:fM=fnS 1 7 true (aD (bD 1 (sDo cC [.val (sC (.int 1)),.val (aA 2 aq 0 [.val (sC (.int 4))])])) (aD (bD 2 (sC (.int 0))) (aD (sIf (tB' (sDo dGt [.nam 1,.val (sC (.int 1))])) (bD 2 (aA 2 aq 0 [.val (sDo jH [.val (sC (.int 8)),.nam 1])])) (bF)) qM))):=by unfold fM qM;with_reducible rfl
 rw [es]
 dsimp? only
 refine aV hB (by decide) fun bag1 r hB1 hr=>?_
 have e1:(1:Int)+(r:Int)=((1+r:Nat):Int):=by omega
 dsimp? only [hB1.clean,e1]
 refine gf (fun hc=>?_) fun hc=>?_
 ·dsimp? only [hB1.clean]
  refine aV hB1 (by omega) fun bag2 u hB2 hu=>?_
  dsimp? only [hB2.clean]
  exact uF hB2 (by omega) (by omega) (by omega) (.inl (by omega)) h
 ·(try dsimp? only)
  exact uF (u:=0) hB1 (by omega) (by omega) (by omega) (.inr rfl) h
end Z
namespace Z
open PySem L2 TM PyProof.Rows
theorem tG {bag:D} {m:Int} (hB:Bag bag) (hm:0<m) {Q:D->Option D->Prop} (h:∀ (bag':D) (r:Nat),Bag bag'->(r:Int)<m->Q (.int r) (some bag')):aq [bag,.int m] Q:=by
 obtain ⟨k,rfl⟩:∃ k:Nat,m=(k:Int):=⟨m.toNat,by omega⟩
 exact qe hB (by omega) fun bag' r hB' hr=>h bag' r hB' (by omega)
theorem Oz:oV [.int 10,.int 39]=some (.int (10 ^ 39)):=by
 have h64:(10:Int).natAbs<2 ^ 64:=by decide
 show (if (decide ((0:Int)<=39)&&decide ((39:Int)<=1000000)&&decide ((10:Int).natAbs<2 ^ 64))=true then some (D.int (10 ^ (39:Int).toNat)) else none)=_
 rw [decide_eq_true h64];rfl
end Z
namespace Z
open PySem L2 TM PyProof.Rows
def dpB:Nat->D->Bool
 | 0,.tup _=>false
 | 0,_=>true
 | k+1,.tup ds=>ds.all (dpB k)
 | _+1,_=>true
theorem nG:∀ (k:Nat) (d:D),dpB k d=true->dpB (k+1) d=true
 | 0,.tup ds,h=>by simp [dpB] at h
 | k+1,.tup ds,h=>by
  unfold dpB at h ⊢
  rw [List.all_eq_true] at h ⊢
  exact fun d hd=>nG k d (h d hd)
 | k,.non,_=>by cases k <;> rfl
 | k,.bl _,_=>by cases k <;> rfl
 | k,.int _,_=>by cases k <;> rfl
 | k,.str _,_=>by cases k <;> rfl
 | k,.lst _ _,_=>by cases k <;> rfl
 | k,.scr _,_=>by cases k <;> rfl
 | k,.ty _,_=>by cases k <;> rfl
 | k,.xc _ _,_=>by cases k <;> rfl
 | k,.fn _,_=>by cases k <;> rfl
 | k,.dct _ _ _,_=>by cases k <;> rfl
theorem iz {k:Nat} {ds:List D} (h:∀ d∈ds,dpB k d=true):dpB (k+1) (.tup ds)=true:=by
 unfold dpB;exact List.all_eq_true.mpr h
theorem El {k:Nat} {ds:List D} (h:dpB k (.tup ds)=true):∃ j,k=j+1 ∧ ∀ d∈ds,dpB j d=true:=by
 cases k with
 | zero=>simp [dpB] at h
 | succ j=>unfold dpB at h;exact ⟨j,rfl,List.all_eq_true.mp h⟩
theorem wn {i:Nat} {lo hi:Int} (h1:lo<=i) (h2:(i:Int)<=hi):au (.int (i:Int)) lo hi=true:=by
 show (decide (lo<=(i:Int))&&decide ((i:Int)<=hi))=true
 rw [decide_eq_true h1,decide_eq_true h2];rfl
theorem Gi {x:Nat×Nat} (h:PcS x):bJ (pcD x)=true:=by
 show (au (.int (x.1:Int)) 1 20&&au (.int (x.2:Int)) 0 99)=true
 have h1:=h.a;have h2:=h.b;have h3:=h.c
 rw [wn (by omega) (by omega),wn (by omega) (by omega)];rfl
theorem Qz {n:Nat} {w:Wk} (h:WkS n w):bO (n:Int) w.d=true:=by
 have h1:=h.p;have h2:=h.a;have h3:=h.b;have h4:=h.c;have h5:=h.g;have h6:=h.e
 have hp:dX (.tup (w.ps.map pcD))=true:=by
  rcases h.ps with ⟨x,e,hx⟩ | ⟨x,y,e,hx,hy,hxy⟩
  ·rw [e];exact Gi hx
  ·rw [e]
   show (bJ (pcD x)&&(bJ (pcD y)&&decide (((x.2:Nat):Int)<=((y.2:Nat):Int))))=true
   rw [Gi hx,Gi hy,decide_eq_true (by omega)];rfl
 show (au (.int (w.p:Int)) 0 ((n:Int) - 1)&&(au (.int (w.a:Int)) 0 20&&(au (.int (w.b:Int)) 0 99&&(dX (.tup (w.ps.map pcD))&&(au (.int (w.c:Int)) 0 99&&(au (.int (w.g:Int)) 1 2&&(au (.int (w.e:Int)) 1 2&&true)))))))=true
 rw [hp,wn (by omega) (by omega),wn (by omega) (by omega),wn (by omega) (by omega),wn (by omega) (by omega),wn (by omega) (by omega),wn (by omega) (by omega)];rfl
theorem Qg {n:Nat} {o:Option Sr} (h:∀ s,o=some s->s.p<n∧(1<=s.a∧s.a<=2)∧s.b<=s.a∧(1<=s.c∧s.c<=20)∧s.g<=s.c):cA (n:Int) (stD o)=true:=by
 cases o with
 | none=>rfl
 | some s=>
  obtain ⟨h1,h2,h3,h4,h5⟩:=h s rfl
  show (au (.int (s.p:Int)) 0 ((n:Int) - 1)&&(au (.int (s.a:Int)) 1 2&&(au (.int (s.b:Int)) 0 (s.a:Int)&&(au (.int (s.c:Int)) 1 20&&au (.int (s.g:Int)) 0 (s.c:Int)))))=true
  rw [wn (by omega) (by omega),wn (by omega) (by omega),wn (by omega) (by omega),wn (by omega) (by omega),wn (by omega) (by omega)];rfl
theorem Om {n:Nat} {l:List Wt} (hl:l.length<=3) (h:∀ t∈l,t.p<n∧t.s<=30∧t.w<=100):fK (n:Int) (hrD l)=true:=by
 show (decide ((l.map Wt.d).length<=3)&&(l.map Wt.d).all (eO (n:Int)))=true
 rw [List.length_map,decide_eq_true hl,Bool.true_and,List.all_eq_true]
 intro d hd
 obtain ⟨t,ht,rfl⟩:=List.mem_map.mp hd
 obtain ⟨h1,h2,h3⟩:=h t ht
 show (au (.int (t.p:Int)) 0 ((n:Int) - 1)&&(au (.int (t.s:Int)) 0 30&&au (.int (t.w:Int)) 0 100))=true
 rw [wn (by omega) (by omega),wn (by omega) (by omega),wn (by omega) (by omega)];rfl
structure Hse (d:D):Prop where
 b:houseB d=true
 t:Th 8 d
 c:d.clean=true
 p:dpB 5 d=true
theorem Qw (w:Wk) (h:w.ps.length<=2):Th 8 w.d:=by
 refine Th.tup (fun d hd=>?_) (by simp)
 simp only [List.mem_cons,List.not_mem_nil,or_false] at hd
 rcases hd with rfl | rfl | rfl | rfl | rfl | rfl | rfl | rfl
 ·exact Th.int _ _
 ·exact Th.int _ _
 ·exact Th.int _ _
 ·refine Th.tup (fun d hd=>?_) (by rw [List.length_map];omega)
  obtain ⟨x,_,rfl⟩:=List.mem_map.mp hd
  refine Th.tup (fun d hd=>?_) (by simp)
  simp only [List.mem_cons,List.not_mem_nil,or_false] at hd
  rcases hd with rfl | rfl <;> exact Th.int _ _
 ·exact Th.int _ _
 ·exact Th.int _ _
 ·exact Th.int _ _
 ·exact Th.bl _ _
theorem Qv (o:Option Sr):Th 8 (stD o):=by
 cases o with
 | none=>exact Th.non _
 | some s=>
  refine Th.tup (fun d hd=>?_) (by simp)
  simp only [List.mem_cons,List.not_mem_nil,or_false] at hd
  rcases hd with rfl | rfl | rfl | rfl | rfl <;> exact Th.int _ _
theorem Qu (l:List Wt) (h:l.length<=3):Th 8 (hrD l):=by
 refine Th.tup (fun d hd=>?_) (by rw [List.length_map];omega)
 obtain ⟨t,_,rfl⟩:=List.mem_map.mp hd
 refine Th.tup (fun d hd=>?_) (by simp)
 simp only [List.mem_cons,List.not_mem_nil,or_false] at hd
 rcases hd with rfl | rfl | rfl <;> exact Th.int _ _
theorem Nu (l:Ln):Th 8 l.d:=by
 refine Th.tup (fun d hd=>?_) (by simp)
 simp only [List.mem_cons,List.not_mem_nil,or_false] at hd
 rcases hd with rfl | rfl | rfl | rfl <;> exact Th.int _ _
theorem Jz {n:Nat} {ls:List Ln} (h:ls.length<=6):Th 8 (dW n ls):=by
 refine Th.tup (fun d hd=>?_) (by simp)
 simp only [List.mem_cons,List.not_mem_nil,or_false] at hd
 rcases hd with rfl | rfl
 ·exact Th.int _ _
 ·refine Th.tup (fun d hd=>?_) (by rw [List.length_map];omega)
  obtain ⟨l,_,rfl⟩:=List.mem_map.mp hd
  exact Nu l
theorem KH {n:Nat} {ls:List Ln} {ws:List Wk} {o:Option Sr} {hs:List (List Wt)} (G:Good n ls) (hw:ws.length<=3) (w:∀ w∈ws,WkS n w) (ho:∀ s,o=some s->s.p<n∧(1<=s.a∧s.a<=2)∧s.b<=s.a∧(1<=s.c∧s.c<=20)∧s.g<=s.c)
  (h1:1<=hs.length) (h3:hs.length<=3) (hh:∀ l∈hs,l.length<=3 ∧ ∀ t∈l,t.p<n∧t.s<=30∧t.w<=100):Hse (.tup [dW n ls,.tup (ws.map Wk.d),stD o,.tup (hs.map hrD)]):=by
 have hps:∀ w'∈ws,w'.ps.length<=2:=fun w' hw'=>by rcases (w w' hw').ps with ⟨x,e,_⟩ | ⟨x,y,e,_⟩ <;> rw [e] <;> simp
 refine ⟨?_,Th.tup (fun d hd=>?_) (by simp),?_,?_⟩
 ·show (netB (dW n ls)&&(bZ (.tup (ws.map Wk.d)) 0 3&&((ws.map Wk.d).all (bO (n:Int))&&(cA (n:Int) (stD o)&&(bZ (.tup (hs.map hrD)) 1 3&&(hs.map hrD).all (fK (n:Int)))))))=true
  have e1:bZ (.tup (ws.map Wk.d)) 0 3=true:=by rw [show bZ (.tup (ws.map Wk.d)) 0 3=decide ((ws.map Wk.d).length<=3) from uG _ 3,List.length_map,decide_eq_true hw]
  have e2:bZ (.tup (hs.map hrD)) 1 3=true:=by
   show (decide ((1:Int)<=((hs.map hrD).length:Int))&&decide (((hs.map hrD).length:Int)<=3))=true
   rw [List.length_map,decide_eq_true (by omega),decide_eq_true (by omega)];rfl
  have e3:(ws.map Wk.d).all (bO (n:Int))=true:=List.all_eq_true.mpr fun d hd=>by
   obtain ⟨w',hw',rfl⟩:=List.mem_map.mp hd
   exact Qz (w w' hw')
  have e4:(hs.map hrD).all (fK (n:Int))=true:=List.all_eq_true.mpr fun d hd=>by
   obtain ⟨l,hl,rfl⟩:=List.mem_map.mp hd
   exact Om (hh l hl).1 (hh l hl).2
  rw [uE G,e1,e2,e3,e4,Qg ho];rfl
 ·simp only [List.mem_cons,List.not_mem_nil,or_false] at hd
  rcases hd with rfl | rfl | rfl | rfl
  ·exact Jz G.l
  ·refine Th.tup (fun d hd=>?_) (by rw [List.length_map];omega)
   obtain ⟨w',hw',rfl⟩:=List.mem_map.mp hd
   exact Qw w' (hps w' hw')
  ·exact Qv o
  ·refine Th.tup (fun d hd=>?_) (by rw [List.length_map];omega)
   obtain ⟨l,hl,rfl⟩:=List.mem_map.mp hd
   exact Qu l (hh l hl).1
 ·show ((dW n ls).clean&&(D.cleans (ws.map Wk.d)&&((stD o).clean&&(D.cleans (hs.map hrD)&&true))))=true
  rw [uq,Hv,JL,Hu];rfl
 ·have iN:∀ (k:Nat) (i:Int),dpB k (.int i)=true:=fun k i=>by cases k <;> rfl
  refine iz fun d hd=>?_
  simp only [List.mem_cons,List.not_mem_nil,or_false] at hd
  rcases hd with rfl | rfl | rfl | rfl
  ·refine iz fun d hd=>?_
   simp only [List.mem_cons,List.not_mem_nil,or_false] at hd
   rcases hd with rfl | rfl
   ·exact iN _ _
   ·refine iz fun d hd=>?_
    obtain ⟨l,_,rfl⟩:=List.mem_map.mp hd
    rfl
  ·refine iz fun d hd=>?_
   obtain ⟨w',_,rfl⟩:=List.mem_map.mp hd
   refine iz fun d hd=>?_
   simp only [List.mem_cons,List.not_mem_nil,or_false] at hd
   rcases hd with rfl | rfl | rfl | rfl | rfl | rfl | rfl | rfl
   ·rfl
   ·rfl
   ·rfl
   ·refine iz fun d hd=>?_
    obtain ⟨x,_,rfl⟩:=List.mem_map.mp hd
    rfl
   ·rfl
   ·rfl
   ·rfl
   ·rfl
  ·cases o <;> rfl
  ·refine iz fun d hd=>?_
   obtain ⟨l,_,rfl⟩:=List.mem_map.mp hd
   refine iz fun d hd=>?_
   obtain ⟨t,_,rfl⟩:=List.mem_map.mp hd
   rfl
theorem tR {bag:D} (hB:Bag bag) {Q:D->Option D->Prop} (h:∀ (bag' d:D),Bag bag'->Hse d->Q d (some bag')):dY [bag,.int 3,.int 3] Q:=by
 have p62:(2:Int) ^ 62=4611686018427387904:=by decide
 dsimp? only [dY]
 refine vp hB fun bag1 n ls hB1 G=>?_
 have hn1:=G.n1
 dsimp? only [hB1.clean,uq,gm]
 refine aV hB1 (by decide) fun bag2 r hB2 hr=>?_
 have er:(r:Int).toNat=r:=by omega
 dsimp? only [hB2.clean]
 rw [er]
 refine bR ⟨by omega,by omega,by omega⟩ ?_
 (try dsimp? only)
 rw [Br]
 refine oR (fun k:Nat=>D.int (k:Int)) (fun _ d=>∃ w:Wk,WkS n w∧d=w.d) (fun ρ => ∃ x d,ρ = [x,some d,some (dW n ls)]∧Bag d) ⟨_,_,rfl,hB2⟩ ?_ ?_
 ·rintro k _ ρ ⟨x,d,rfl,hd⟩ P hP
  dsimp? only [iB]
  refine vy hd (by omega) fun bag' w hB' hw=>?_
  dsimp? only [hB'.clean,JM]
  exact hP _ _ ⟨w,hw,rfl⟩ ⟨_,_,rfl,hB'⟩
 rintro es ρ hl hE ⟨x,bag3,rfl,hB3⟩
 rw [List.length_range] at hl
 obtain ⟨ws,rfl,hws⟩:=vB Wk.d (P:=fun w=>WkS n w) (ds:=es) fun i d hd=>hE i i d (by rw [List.getElem?_range (by rw [← hl];exact (List.getElem?_eq_some_iff.mp hd).1)]) hd
 rw [List.length_map] at hl
 dsimp? only [hB3.clean,Bw,iB,gm]
 refine tU hB3 (by omega) fun bag4 o hB4 ho=>?_
 dsimp? only [hB4.clean,JL,gm]
 refine aV hB4 (by decide) fun bag5 r2 hB5 hr2=>?_
 have e2:((1:Int)+(r2:Int))=((1+r2:Nat):Int):=by omega
 have e3:(((1+r2:Nat):Int)).toNat=1+r2:=by omega
 dsimp? only [hB5.clean,e2]
 rw [e3]
 refine bR ⟨by omega,by omega,by omega⟩ ?_
 (try dsimp? only)
 rw [Br]
 refine oR (fun k:Nat=>D.int (k:Int)) (fun _ d=>∃ l:List Wt,(l.length<=3 ∧ ∀ t∈l,t.p<n∧t.s<=30∧t.w<=100)∧d=hrD l) (fun ρ => ∃ x d,ρ = [x,some d,some (dW n ls)]∧Bag d) ⟨_,_,rfl,hB5⟩ ?_ ?_
 ·rintro k _ ρ ⟨x,d,rfl,hd⟩ P hP
  dsimp? only [iB]
  refine vq hd (by omega) fun bag' l hB' h1 h2=>?_
  dsimp? only [hB'.clean,JK]
  exact hP _ _ ⟨l,⟨h1,h2⟩,rfl⟩ ⟨_,_,rfl,hB'⟩
 rintro es ρ hl2 hE2 ⟨x',bag6,rfl,hB6⟩
 rw [List.length_range] at hl2
 obtain ⟨hs,rfl,hhs⟩:=vB hrD (P:=fun l=>l.length<=3 ∧ ∀ t∈l,t.p<n∧t.s<=30∧t.w<=100) (ds:=es) fun i d hd=>hE2 i i d (by rw [List.getElem?_range (by rw [← hl2];exact (List.getElem?_eq_some_iff.mp hd).1)]) hd
 rw [List.length_map] at hl2
 dsimp? only [hB6.clean,Jq,Bw,Qe,gm]
 exact h bag6 _ hB6 (KH G (by omega) hws ho (by omega) (by omega) hhs)
end Z
namespace Z
open PySem L2 TM PyProof.Rows
theorem pR {m:Nat} {ds:List D} (h:Th m (.tup ds)) (lo hi:Option Int):(∀ d∈cutD ds lo hi,Th m d)∧(cutD ds lo hi).length<=m:=by
 obtain ⟨h1,h2⟩:=h.of_tup
 exact ⟨fun d hd=>h1 d (lC hd),Nat.le_trans (DR ds lo hi) h2⟩
theorem lN {m:Nat} {ds:List D} (h:∀ d∈ds,Th m d):D.shs ds=true:=(eZ ds).mpr fun d hd=>(h d hd).s
theorem rm {m:Nat} {xs ys:List D} (hx:∀ d∈xs,Th m d) (hy:∀ d∈ys,Th m d) (hl:xs.length+ys.length<=10000):cC [.tup xs,.tup ys]=some (.tup (xs++ys)) ∧ ∀ d∈xs++ys,Th m d:=
 ⟨dAdd_tup _ _ (by rw [sizeLine_eq];omega) (lN hx) (lN hy),fun d hd=>(List.mem_append.mp hd).elim (hx d) (hy d)⟩
theorem ix2 {o:Bool} {a b:D} (ha:a.sh=true) (hb:b.sh=true):∀ r:Nat,r<2 -> ∃ d,dIx [.lst o [a,b],.int (r:Int)]=some d∧(d=a∨d=b)
 | 0,_=>⟨a,zT _ _ (k:=0) rfl ha,.inl rfl⟩
 | 1,_=>⟨b,zT _ _ (k:=1) rfl hb,.inr rfl⟩
 | r+2,h=>by omega
end Z
namespace Z
open PySem L2 TM PyProof.Rows
theorem xF {xs:List D} {r:Nat} {x:D} (h:xs[r]? = some x):∃ t,ixF (.lst true xs) (r:Int)=some (x.fz,t):=by
 have hlt:r<xs.length:=(List.getElem?_eq_some_iff.mp h).1
 cases hs:x.sh with
 | true=>exact ⟨none,by rw [D.sh_fz x hs];exact qK _ _ (ni h) hs⟩
 | false=>
  refine ⟨_,HF (n:=r) _ _ ?_ h hs⟩
  unfold ixN
  rw [if_pos (by omega),if_pos (by omega)]
  rfl
structure Lft (m k:Nat) (d:D):Prop where
 t:Th (2*m+1) d
 p:dpB (k+1) d=true
def rF (ds xs ys:List D):List D:=[.lst true ds,.tup (ds++[.int 0]),.tup xs,.tup [],.non,.int 0,.tup (ds++ys),.tup ds.reverse,.tup [.tup ds]]
def others (d:D) (p:Int):List D:=[.non,.bl true,.bl false,.int 0,.int (-1),.int 1,.int 2,.int 3,.int 4,.int 10,.int 21,.int 100,.int 101,.int p,.str "1",.tup [],.lst true [d],.str "on"]
theorem Ky (ds:List D) (h:D.shs ds=true):uw [.tup ds,.int (-1)]=some (.tup ds.reverse):=by
 show (if (D.shs ds&&((-1:Int) == -1))=true then _ else _)=_
 rw [h];rfl
theorem Er {m k:Nat} {ds xs ys:List D} (h:Th m (.tup ds)) (h1:1<=m) (hk:dpB k (.tup ds)=true) (hx:∀ d∈xs,d∈ds) (hxl:xs.length<=m) (hy:∀ d∈ys,d∈ds) (hyl:ys.length<=m):∀ x∈rF ds xs ys,Lft m k x.fz:=by
 obtain ⟨ht,hl⟩:=h.of_tup
 obtain ⟨j,rfl,hj⟩:=El hk
 have up:∀ {x:D},Th m x->Th (2*m+1) x:=fun hx=>hx.mono (by omega)
 have fz:∀ {zs:List D},(∀ d∈zs,Th m d)->D.fzs zs=zs:=fun hz=>D.shs_fz _ (lN hz)
 have tp:∀ zs:List D,(∀ d∈zs,Th m d∧dpB (j+1) d=true)->zs.length<=2*m+1->Lft m (j+1) (D.fz (.tup zs)):=fun zs hz hzl=>by
  rw [D.fz,fz fun d hd=>(hz d hd).1]
  exact ⟨Th.tup (fun d hd=>up (hz d hd).1) hzl,iz fun d hd=>(hz d hd).2⟩
 have el:∀ d∈ds,Th m d∧dpB (j+1) d=true:=fun d hd=>⟨ht d hd,nG _ _ (hj d hd)⟩
 have ei:∀ d∈[D.int 0],Th m d∧dpB (j+1) d=true:=fun d hd=>by rw [List.mem_singleton.mp hd];exact ⟨Th.int _ _,rfl⟩
 have both:∀ {us vs:List D},(∀ d∈us,Th m d∧dpB (j+1) d=true)->(∀ d∈vs,Th m d∧dpB (j+1) d=true) -> ∀ d∈us++vs,Th m d∧dpB (j+1) d=true:=fun hu hv d hd=>(List.mem_append.mp hd).elim (hu d) (hv d)
 intro x hx'
 simp only [rF,List.mem_cons,List.not_mem_nil,or_false] at hx'
 rcases hx' with rfl | rfl | rfl | rfl | rfl | rfl | rfl | rfl | rfl
 ·rw [D.fz,fz ht];exact ⟨up (Th.lst ht hl),rfl⟩
 ·exact tp _ (both el ei) (by rw [List.length_append];show _+1<=_;omega)
 ·exact tp _ (fun d hd=>el d (hx d hd)) (by omega)
 ·exact tp [] (fun d hd=>by simp at hd) (by simp)
 ·exact ⟨Th.non _,rfl⟩
 ·exact ⟨Th.int _ _,rfl⟩
 ·exact tp _ (both el fun d hd=>el d (hy d hd)) (by rw [List.length_append];omega)
 ·exact tp _ (fun d hd=>el d (List.mem_reverse.mp hd)) (by rw [List.length_reverse];omega)
 ·exact tp [.tup ds] (fun d hd=>by rw [List.mem_singleton.mp hd];exact ⟨h,hk⟩) (by simp)
theorem Df {m k:Nat} {d:D} {p:Int} (h:Th m d) (h1:1<=m):∀ x∈others d p,Lft m k x.fz:=by
 intro x hx
 simp only [others,List.mem_cons,List.not_mem_nil,or_false] at hx
 rcases hx with rfl | rfl | rfl | rfl | rfl | rfl | rfl | rfl | rfl | rfl | rfl | rfl | rfl | rfl | rfl | rfl | rfl | rfl
 ·exact ⟨Th.non _,rfl⟩
 ·exact ⟨Th.bl _ _,rfl⟩
 ·exact ⟨Th.bl _ _,rfl⟩
 ·exact ⟨Th.int _ _,rfl⟩
 ·exact ⟨Th.int _ _,rfl⟩
 ·exact ⟨Th.int _ _,rfl⟩
 ·exact ⟨Th.int _ _,rfl⟩
 ·exact ⟨Th.int _ _,rfl⟩
 ·exact ⟨Th.int _ _,rfl⟩
 ·exact ⟨Th.int _ _,rfl⟩
 ·exact ⟨Th.int _ _,rfl⟩
 ·exact ⟨Th.int _ _,rfl⟩
 ·exact ⟨Th.int _ _,rfl⟩
 ·exact ⟨Th.int _ _,rfl⟩
 ·exact ⟨Th.str _ _,rfl⟩
 ·exact ⟨Th.tup (fun d hd=>by simp [D.fzs] at hd) (by simp [D.fzs]),rfl⟩
 ·rw [D.fz,D.fzs,D.fzs,h.fz]
  exact ⟨Th.lst (fun d' hd=>by rw [List.mem_singleton.mp hd];exact h.mono (by omega)) (by simp),rfl⟩
 ·exact ⟨Th.str _ _,rfl⟩
def mY (s:bA) (ρ : En) (d:D):Prop:=∀ Q:D->En->Prop,Q d ρ -> s ρ Q
inductive Pures (ρ : En):List bA->List D->Prop where
 | nil:Pures ρ [] []
 | cons {s:bA} {ss:List bA} {d:D} {ds:List D}:mY s ρ d->Pures ρ ss ds->Pures ρ (s :: ss) (d :: ds)
theorem yh {ρ : En}:∀ {ss:List bA} {ds:List D},Pures ρ ss ds -> ∀ {K:List AD->En->Prop},K (ds.map AD.val) ρ -> dq (ss.map Opd.val) ρ K
 | _,_,.nil,K,h=>h
 | _,_,.cons p ps,K,h=>p _ (yh ps h)
theorem qd (ρ : En):∀ ds:List D,bc ρ (ds.map AD.val)=some ds
 | []=>rfl
 | d :: ds=>by rw [List.map_cons,getAll_cons',qd ρ ds,getAD_val];rfl
theorem qj (ρ : En):∀ ds:List D,namsSh ρ (ds.map AD.val)=true
 | []=>rfl
 | d :: ds=>qj ρ ds
theorem rY {ρ : En} {ss:List bA} {ds:List D} (h:Pures ρ ss ds) (hl:ds.length<=sizeLine):mY (fj (ss.map Opd.val)) ρ (.lst true ds):=fun Q q=>by
 rw [ev_Lst]
 refine yh h ?_
 rw [qd,qj]
 exact ⟨ds,rfl,rfl,hl,q⟩
def wK:bA:=(fj [.val (sDo jq [.nam 1]),.val (sDo cC [.nam 1,.val (eH [.val (sC (.int 0))])]),.val (lK (.nam 1) (.val (sDo oU [.val (sC (.int 1))]))),.val (eH []),.val (sC .non),.val (sC (.int 0)),.val (sDo cC [.nam 1,.val (uH (.nam 1) (.val (sDo oU [.val (sC (.int 1))])))]),.val (sDo uw [.nam 1,.val (sDo oU [.val (sC (.int 1))])]),.val (eH [.val (cu 1)])])
def wL:bA:=(fj [.val (sC .non),.val (sC (.bl true)),.val (sC (.bl false)),.val (sC (.int 0)),.val (sDo oU [.val (sC (.int 1))]),.val (sC (.int 1)),.val (sC (.int 2)),.val (sC (.int 3)),.val (sC (.int 4)),.val (sC (.int 10)),.val (sC (.int 21)),.val (sC (.int 100)),.val (sC (.int 101)),.val (sDo oV [.val (sC (.int 10)),.val (sC (.int 39))]),.val (sC (.str "1")),.val (eH []),.val (fj [.val (cu 1)]),.val (sC (.str "on"))])
theorem pC (d:D) (ρ : En):mY (sC d) ρ d:=fun _ q=>q
theorem Eb {m:Nat} {ds:List D} {x0 x2 x3:Option D} (h:Th m (.tup ds)) (hm:m<=100):mY wK [x0,some (.tup ds),x2,x3] (.lst true (rF ds (cutD ds none (some (-1))) (cutD ds (some (-1)) none))):=by
 obtain ⟨ht,hl⟩:=h.of_tup
 have hsh:=lN ht
 have c2:=pR h (some (-1)) none
 have s0:∀ d∈[D.int 0],Th m d:=fun d hd=>by rw [List.mem_singleton.mp hd];exact Th.int _ _
 obtain ⟨a1,_⟩:=rm ht s0 (by show _+1<=_;omega)
 obtain ⟨a2,_⟩:=rm ht c2.1 (by omega)
 have a3:=Ky ds hsh
 unfold wK rF
 refine rY (ss:=[_,_,_,_,_,_,_,_,_]) ?_ (by rw [sizeLine_eq];simp)
 refine .cons (fun Q q=>?_) (.cons (fun Q q=>?_) (.cons (fun Q q=>?_) (.cons (fun Q q=>?_) (.cons (pC _ _) (.cons (pC _ _) (.cons (fun Q q=>?_) (.cons (fun Q q=>?_) (.cons (fun Q q=>?_) .nil))))))))
 ·dsimp? only [hsh];exact q
 ·dsimp? only [a1];exact q
 ·dsimp? only [↓lK,jR _ _ _ hsh];exact q
 ·dsimp? only;exact q
 ·dsimp? only [↓uH,jR _ _ _ hsh,a2];exact q
 ·dsimp? only [a3];exact q
 ·dsimp? only [hsh];exact q
theorem Ec {m:Nat} {d:D} {x0 x2 x3:Option D} (h:Th m d) {p:Int} (hP:oV [.int 10,.int 39]=some (.int p)):mY wL [x0,some d,x2,x3] (.lst true (others d p)):=by
 have hs:=h.s
 unfold wL others
 refine rY (ss:=[_,_,_,_,_,_,_,_,_,_,_,_,_,_,_,_,_,_]) ?_ (by rw [sizeLine_eq];simp)
 refine .cons (pC _ _) (.cons (pC _ _) (.cons (pC _ _) (.cons (pC _ _) (.cons (fun Q q=>?_) (.cons (pC _ _) (.cons (pC _ _) (.cons (pC _ _) (.cons (pC _ _) (.cons (pC _ _) (.cons (pC _ _) (.cons (pC _ _) (.cons (pC _ _) (.cons (fun Q q=>?_) (.cons (pC _ _) (.cons (fun Q q=>?_) (.cons (fun Q q=>?_) (.cons (pC _ _) .nil)))))))))))))))))
 ·dsimp? only;exact q
 ·dsimp? only [hP];exact q
 ·dsimp? only;exact q
 ·dsimp? only [hs];exact q
theorem FZ {XA XB:bA} {p39:Int} {m k:Nat} {bag d:D} (hA:∀ {ds:List D} {x0 x2 x3:Option D},Th m (.tup ds)->m<=100->mY XA [x0,some (.tup ds),x2,x3] (.lst true (rF ds (cutD ds none (some (-1))) (cutD ds (some (-1)) none))))
  (hD:∀ {d:D} {x0 x2 x3:Option D},Th m d->mY XB [x0,some d,x2,x3] (.lst true (others d p39)))
  (hB:Bag bag) (h:Th m d) (hm:m<=100) (h1:1<=m) (hk:dpB k d=true) {Q:D->Option D->Prop} (hQ:∀ (bag' r:D),Bag bag'->Lft m k r->Q r (some bag')):fnS 2 2 true (aD (bD 2 (aA 2 aq 0 [.val (sC (.int 18))]))
   (aD (sIf (bU (.val (sDo gC [.nam 1,.val (sC (.ty "tuple"))]))) (aD (bD 3 XA) (bI (bH 3 (.val (sDo pZ [.nam 2,.val (sC (.int 2))]))))) (bF))
   (aD (bD 3 XB) (aD (sIf (tE (bU (.val (sDo gC [.nam 1,.val (sC (.ty "int"))]))) (tB' (sDo dEq [.val (aA 2 aq 0 [.val (sC (.int 2))]),.val (sC (.int 1))])))
   (bI (sDo jH [.val (sDo uv [.nam 1,.val (sC (.int 1))]),.val (sDo mF [.val (sC (.int 2)),.val (sDo jG [.nam 2,.val (sC (.int 2))])])])) (bF)) (bI (bH 3 (.nam 2))))))) [bag,d] Q:=by
 dsimp? only
 refine tG hB (by decide) fun bag1 way hB1 hw=>?_
 rcases eX d with ⟨ds,rfl⟩ | hn
 ·have ew:(way:Int).fdiv 2=((way / 2:Nat):Int):=by rw [Int.fdiv_eq_ediv_of_nonneg _ (by omega)];rfl
  have c1:=pR h none (some (-1))
  have c2:=pR h (some (-1)) none
  dsimp? only [hB1.clean,rM]
  refine hA h hm _ ?_
  have fin:=Er h h1 hk (fun d hd=>lC hd) c1.2 (fun d hd=>lC hd) c2.2
  have hlen:way / 2<(rF ds (cutD ds none (some (-1))) (cutD ds (some (-1)) none)).length:=by show way / 2<9;omega
  generalize rF ds (cutD ds none (some (-1))) (cutD ds (some (-1)) none)=es at fin hlen
  obtain ⟨t,et⟩:=xF (List.getElem?_eq_getElem hlen)
  have fin:=fin _ (List.getElem_mem hlen)
  dsimp? only [ew,et]
  cases t with
  | none=>dsimp? only;exact hQ bag1 _ hB1 fin
  | some c=>dsimp? only;exact hQ bag1 _ hB1 fin
 ·have ei:=jw h hn
  have num:∀ (i:Int),Lft m k (.int i):=fun i=>⟨Th.int _ _,rfl⟩
  have em:(way:Int).fmod 2=((way % 2:Nat):Int):=by rw [Int.fmod_eq_emod_of_nonneg _ (by omega)];rfl
  have cb1:lq 2 ((way % 2:Nat):Int)=true:=cb (m:=5) (n:=5) (nj (m:=32) (by decide) (by decide)) (nj (m:=32) (by omega) (by decide)) (by decide)
  dsimp? only [hB1.clean,ei]
  refine hD h _ ?_
  have fin:=Df (k:=k) (p:=p39) h h1
  have hlen:way<(others d p39).length:=by show way<18;omega
  generalize others d p39=es at fin hlen
  obtain ⟨t,et⟩:=xF (List.getElem?_eq_getElem hlen)
  have fin:=fin _ (List.getElem_mem hlen)
  obtain ⟨b,eb,hb⟩:=xq h
  cases b with
  | false=>
   dsimp? only [eb,et]
   cases t with
   | none=>dsimp? only;exact hQ bag1 _ hB1 fin
   | some c=>dsimp? only;exact hQ bag1 _ hB1 fin
  | true=>
   obtain ⟨i,ea⟩:∃ i,uv [d,.int 1]=some (.int i):=by
    rcases hb.mp rfl with ⟨i,rfl⟩ | ⟨c,rfl⟩
    ·exact ⟨_,rfl⟩
    ·exact ⟨_,rfl⟩
   dsimp? only [eb]
   refine tG hB1 (by decide) fun bag2 r hB2 hr=>?_
   dsimp? only [hB2.clean]
   refine oZ (fun hc=>?_) fun hc=>?_
   ·dsimp? only [ea,em,cb1]
    exact hQ bag2 _ hB2 (num _)
   ·dsimp? only [et]
    cases t with
    | none=>dsimp? only;exact hQ bag2 _ hB2 fin
    | some c=>dsimp? only;exact hQ bag2 _ hB2 fin
theorem lD {m k:Nat} {bag d:D} (hB:Bag bag) (h:Th m d) (hm:m<=100) (h1:1<=m) (hk:dpB k d=true) {Q:D->Option D->Prop} (hQ:∀ (bag' r:D),Bag bag'->Lft m k r->Q r (some bag')):fO [bag,d] Q:=by
 have es:fO=fnS 2 2 true (aD (bD 2 (aA 2 aq 0 [.val (sC (.int 18))]))
   (aD (sIf (bU (.val (sDo gC [.nam 1,.val (sC (.ty "tuple"))]))) (aD (bD 3 wK) (bI (bH 3 (.val (sDo pZ [.nam 2,.val (sC (.int 2))]))))) (bF))
   (aD (bD 3 wL) (aD (sIf (tE (bU (.val (sDo gC [.nam 1,.val (sC (.ty "int"))]))) (tB' (sDo dEq [.val (aA 2 aq 0 [.val (sC (.int 2))]),.val (sC (.int 1))])))
   (bI (sDo jH [.val (sDo uv [.nam 1,.val (sC (.int 1))]),.val (sDo mF [.val (sC (.int 2)),.val (sDo jG [.nam 2,.val (sC (.int 2))])])])) (bF)) (bI (bH 3 (.nam 2))))))):=by unfold fO wK wL;with_reducible rfl
 rw [es]
 exact FZ (XA:=wK) (XB:=wL) Eb (fun h=>Ec h Oz) hB h hm h1 hk hQ
theorem lE:∀ (f:Nat) {k m:Nat} {bag d:D},Bag bag->Th m d->m<=100->1<=m->dpB k d=true->k<f -> ∀ {Q:D->Option D->Prop},(∀ (bag' r:D),Bag bag'->Lft m k r->Q r (some bag'))->cF f [bag,d] Q
 | 0,k,m,bag,d,_,_,_,_,_,hf,_,_=>by omega
 | f+1,k,m,bag,d,hB,h,hm,h1,hk,hf,Q,hQ=>by
  have hs:=h.s
  rw [cF]
  rcases eX d with ⟨ds,rfl⟩ | hn
  ·obtain ⟨ht,hl⟩:=h.of_tup
   have hsh:=lN ht
   have hfz:D.fzs ds=ds:=D.shs_fz _ hsh
   by_cases h0:ds.length=0
   ·have hle:decide ((0:Int)<(ds.length:Int))=false:=decide_eq_false (by omega)
    dsimp? only [rM,hle,hsh,hfz]
    exact lD hB h hm h1 hk fun bag' r hB' hr=>by dsimp? only [hsh];exact hQ bag' r hB' hr
   ·have hgt:decide ((0:Int)<(ds.length:Int))=true:=decide_eq_true (by omega)
    dsimp? only [rM,hgt,hsh,hfz]
    refine tG hB (by decide) fun bag1 w hB1 hw=>?_
    dsimp? only [hB1.clean,hsh,hfz]
    refine gf (fun hc=>?_) fun hc=>?_
    ·dsimp? only [hsh]
     refine tG hB1 (by omega) fun bag2 pl hB2 hp=>?_
     have hlt:pl<ds.length:=by omega
     have hix:ixF (.tup ds) (pl:Int)=some (ds[pl],none):=aU _ (ni (List.getElem?_eq_getElem hlt)) (ht _ (List.getElem_mem hlt)).s
     have hx:=ht _ (List.getElem_mem hlt)
     obtain ⟨j,rfl,hj⟩:=El hk
     dsimp? only [↓uH,↓lK,hB2.clean,jR _ _ _ hsh,hsh,hix,hx.fz]
     refine lE f hB2 hx hm h1 (hj _ (List.getElem_mem hlt)) (by omega) fun bag3 r hB3 hr=>?_
     have d1:=pR h none (some (pl:Int))
     have d2:=pR h (some ((pl:Int)+1)) none
     have up:∀ {x:D},Th m x->Th (2*m+1) x:=fun hx=>hx.mono (by omega)
     obtain ⟨a7,t7⟩:=rm (m:=2*m+1) (xs:=cutD ds none (some (pl:Int))) (ys:=[r]) (fun d hd=>up (d1.1 d hd)) (fun d hd=>by rw [List.mem_singleton.mp hd];exact hr.t) (by show _+1<=_;omega)
     have l7:(cutD ds none (some (pl:Int))++[r]).length<=m+1:=by rw [List.length_append];show _+1<=_;omega
     obtain ⟨a8,t8⟩:=rm t7 (fun d hd=>up (d2.1 d hd)) (by omega)
     dsimp? only [hB3.clean,hr.t.s,hsh,hix,jR _ _ _ hsh,a7,a8]
     refine hQ bag3 _ hB3 ⟨Th.tup t8 (by rw [List.length_append];omega),iz fun d hd=>?_⟩
     rcases List.mem_append.mp hd with z | z
     ·rcases List.mem_append.mp z with z | z
      ·exact nG _ _ (hj d (lC z))
      ·rw [List.mem_singleton.mp z];exact hr.p
     ·exact nG _ _ (hj d (lC z))
    ·dsimp? only [hsh,hfz]
     exact lD hB1 h hm h1 hk fun bag' r hB' hr=>by dsimp? only [hsh];exact hQ bag' r hB' hr
  ·have ei:=jw h hn
   dsimp? only [ei,hs,h.fz]
   exact lD hB h hm h1 hk fun bag' r hB' hr=>by dsimp? only [hs];exact hQ bag' r hB' hr
end Z
namespace Z
open PySem L2 TM PyProof.Rows
def wM:bA:=(fj [.val (cu 3),.val (sC .non),.val (eH []),.val (fj []),.val (sC (.int 0)),.val (sC (.bl true)),.val (sC (.str "house")),.val (sDo jq [.nam 3]),.val (lK (.nam 3) (.val (sC (.int 3)))),.val (sDo cC [.nam 3,.val (eH [.val (eH [])])])])
def ten (hs:List D):List D:=[.tup hs,.non,.tup [],.lst true [],.int 0,.bl true,.str "house",.lst true hs,.tup (cutD hs none (some 3)),.tup (hs++[.tup []])]
theorem Ed {hs:List D} {x0 x1 x2 x4 x5 x6 x7 x8:Option D} (h:Th 8 (.tup hs)):mY wM [x0,x1,x2,some (.tup hs),x4,x5,x6,x7,x8] (.lst true (ten hs)):=by
 obtain ⟨ht,hl⟩:=h.of_tup
 have hsh:=lN ht
 have s0:∀ d∈[D.tup []],Th 8 d:=fun d hd=>by rw [List.mem_singleton.mp hd];exact Th.tup (fun d hd=>by simp at hd) (by simp)
 obtain ⟨a1,_⟩:=rm ht s0 (by show _+1<=_;omega)
 unfold wM ten
 refine rY (ss:=[_,_,_,_,_,_,_,_,_,_]) ?_ (by rw [sizeLine_eq];simp)
 refine .cons (fun Q q=>?_) (.cons (pC _ _) (.cons (fun Q q=>?_) (.cons (fun Q q=>?_) (.cons (pC _ _) (.cons (pC _ _) (.cons (pC _ _) (.cons (fun Q q=>?_) (.cons (fun Q q=>?_) (.cons (fun Q q=>?_) .nil)))))))))
 ·dsimp? only [hsh];exact q
 ·dsimp? only;exact q
 ·dsimp? only;exact q
 ·dsimp? only [hsh];exact q
 ·dsimp? only [↓lK,jR _ _ _ hsh];exact q
 ·dsimp? only [a1];exact q
def Thx (xs:List D):Prop:=∀ x∈xs,Th 71 x.fz
theorem Nt {hs:List D} (h:Th 8 (.tup hs)):Thx (ten hs):=by
 obtain ⟨ht,hl⟩:=h.of_tup
 have c:=pR h none (some 3)
 have fz:∀ {zs:List D},(∀ d∈zs,Th 8 d)->D.fzs zs=zs:=fun hz=>D.shs_fz _ (lN hz)
 have up:∀ {x:D},Th 8 x->Th 71 x:=fun hx=>hx.mono (by decide)
 have te:Th 71 (.tup []):=Th.tup (fun d hd=>by simp at hd) (by simp)
 have t8:Th 8 (.tup []):=Th.tup (fun d hd=>by simp at hd) (by simp)
 have ha:∀ d∈hs++[D.tup []],Th 8 d:=fun d hd=>(List.mem_append.mp hd).elim (ht d) fun z=>by rw [List.mem_singleton.mp z];exact t8
 intro x hx
 simp only [ten,List.mem_cons,List.not_mem_nil,or_false] at hx
 rcases hx with rfl | rfl | rfl | rfl | rfl | rfl | rfl | rfl | rfl | rfl
 ·rw [h.fz];exact up h
 ·exact Th.non _
 ·exact te
 ·exact Th.lst (fun d hd=>by simp [D.fzs] at hd) (by simp [D.fzs])
 ·exact Th.int _ _
 ·exact Th.bl _ _
 ·exact Th.str _ _
 ·rw [D.fz,fz ht];exact Th.lst (fun d hd=>up (ht d hd)) (by omega)
 ·rw [D.fz,fz c.1];exact Th.tup (fun d hd=>up (c.1 d hd)) (by have:=c.2;omega)
 ·rw [D.fz,fz ha];exact Th.tup (fun d hd=>up (ha d hd)) (by rw [List.length_append];show _+1<=_;omega)
theorem Thx.snoc {xs:List D} {x:D} (h:Thx xs) (k:Th 71 x):Thx (xs++[x]):=fun y hy=>(List.mem_append.mp hy).elim (h y) fun z=>by rw [List.mem_singleton.mp z,k.fz];exact k
theorem Thx.fzs {xs:List D} (h:Thx xs):∀ x∈D.fzs xs,Th 71 x:=fun x hx=>by
 rw [D.fzs_eq] at hx
 obtain ⟨y,hy,rfl⟩:=List.mem_map.mp hx
 exact h y hy
def mJ (j:Nat):Nat:=9*2 ^ j - 1
theorem QS (j:Nat):2*mJ j+1=mJ (j+1):=by
 unfold mJ
 have:1<=2 ^ j:=Nat.one_le_two_pow
 rw [Nat.pow_succ];omega
theorem JT {j:Nat} (h:j<=3):mJ j<=71∧1<=mJ j:=by
 match j,h with
 | 0,_=>decide
 | 1,_=>decide
 | 2,_=>decide
 | 3,_=>decide
 | j+4,h=>omega
theorem HB (b:Bool):gC [.bl b,.ty "bool"]=some (.bl true):=rfl
theorem LQ (b:Bool):dNe [.bl b,.bl b]=some (.bl false):=by cases b <;> rfl
theorem Fj {XH:bA} (hH:∀ {hs:List D} {x0 x1 x2 x4 x5 x6 x7 x8:Option D},Th 8 (.tup hs)->mY XH [x0,x1,x2,some (.tup hs),x4,x5,x6,x7,x8] (.lst true (ten hs))) (ns:List Int) (hns:ns.length<=63):(fnS 1 8 false
 (aD (gU (cG (.val (sDo Ce [.val (sC (.int 1)),.val (sDo wJ [.val (sC (.int 4)),.val (sDo jQ [.nam 0])])]))) (gN 1)
 (lJ [2,3,4] (aD (bD 2 (aF 2 ik [.nam 0,.nam 1]))
 (aD (bD 3 (aA 3 dY 2 [.val (sC (.int 3)),.val (sC (.int 3))]))
 (aD (bD 4 XH)
 (aD (gU (cG (.val (sC (.int 6)))) (gN 5)
 (lJ [6] (aD (bD 6 (cu 3))
 (aD (gU (cG (.val (sDo cC [.val (sC (.int 1)),.val (aA 2 aq 2 [.val (sC (.int 3))])]))) (gN 7)
 (bD 6 (aA 2 (cF 9) 2 [.nam 6])))
 (jW (lW gG 4 [.val (cu 6)]))))))
 (aD (sIf (bB (bU (.val (aF 1 bY [.nam 3]))))
 (bI (sC (.bl false)))
 (bF))
 (gU (jn (cu 4)) (gN 6)
 (lJ [8] (aD (bD 8 (aF 1 gk [.nam 6]))
 (sIf (fu (bB (bU (.val (sDo gC [.nam 8,.val (sC (.ty "bool"))])))) (tB' (sDo dNe [.nam 8,.val (aF 1 bY [.nam 6])])))
 (bI (sC (.bl false)))
 (bF))))))))))))
 (bI (sC (.bl true))))) [.scr ns] fun r _=>r = .bl true:=by
 have p62:(2:Int) ^ 62=4611686018427387904:=by decide
 dsimp? only
 refine bR ?_ ?_
 ·split <;> split <;> omega
 (try dsimp? only)
 refine dN (fun k ρ => ∃ x1 x2 x3 x4 x5 x6 x7 x8,ρ = [some (.scr ns),x1,x2,x3,x4,x5,x6,x7,x8]) 0 ⟨_,_,_,_,_,_,_,_,rfl⟩ ?_ ?_
 ·rintro k d ρ hd ⟨x1,x2,x3,x4,x5,x6,x7,x8,rfl⟩ P hP
  obtain ⟨hk,rfl⟩:=jf hd
  have hk2:k<=100:=by revert hk;split <;> split <;> omega
  dsimp? only [Int.zero_add]
  refine yW hk2 hns fun bag1 hB1=>?_
  dsimp? only [Int.zero_add]
  refine tR hB1 fun bag2 d hB2 hd=>?_
  obtain ⟨hs,rfl⟩:∃ hs,d = .tup hs:=by
   rcases eX d with z | hn
   ·exact z
   ·have:=hd.b;rw [mG hn] at this;cases this
  have hT:=hd.t
  have sT:=hd.t.s
  have fT:=hd.t.fz
  have cT:=hd.c
  have dT:=hd.p
  have bT:=hd.b
  have hsh:D.shs hs=true:=lN hT.of_tup.1
  have hfz:D.fzs hs=hs:=D.shs_fz _ hsh
  have hcl:D.cleans hs=true:=by rw [D.clean] at cT;exact cT
  clear hd
  dsimp? only [hB2.clean,hcl,hsh]
  refine hH hT _ ?_
  have hX0:=Nt hT
  have hl0:(ten hs).length<=10:=by show 10<=10;omega
  generalize ten hs=xs0 at hX0 hl0
  dsimp? only [p62]
  refine bR (by decide) ?_
  (try dsimp? only)
  refine dN (fun j ρ => ∃ (bag:D) (xs:List D) (x1 x5 x6 x7 x8:Option D),ρ = [some (.scr ns),x1,some bag,some (.tup hs),some (.lst true xs),x5,x6,x7,x8]∧Bag bag∧Thx xs∧xs.length<=10+j) 0
   ⟨bag2,_,_,_,_,_,_,rfl,hB2,hX0,by omega⟩ ?_ ?_
  ·rintro j d ρ hd ⟨bag,xs,x1,x5,x6,x7,x8,rfl,hB,hX,hL⟩ P hP
   obtain ⟨hj,rfl⟩:=jf hd
   rw [Nat.zero_add] at hL
   dsimp? only [hsh]
   refine tG hB (by decide) fun bag3 r hB3 hr=>?_
   have e1:(1:Int)+(r:Int)=((1+r:Nat):Int):=by omega
   have e2:(((1+r:Nat):Int)).toNat=1+r:=by omega
   dsimp? only [hB3.clean,e1]
   rw [e2]
   refine bR ⟨by omega,by omega,by omega⟩ ?_
   (try dsimp? only)
   refine dN (fun i ρ => ∃ (bag d:D) (x1 x5 x7 x8:Option D),ρ = [some (.scr ns),x1,some bag,some (.tup hs),some (.lst true xs),x5,some d,x7,x8]∧Bag bag∧Th (mJ i) d∧dpB (5+i) d=true) 0
    ⟨bag3,_,_,_,_,_,rfl,hB3,hT,dT⟩ ?_ ?_
   ·rintro i d ρ hd ⟨bag,th,x1,x5,x7,x8,rfl,hB,tt,dp⟩ P hP
    obtain ⟨hi,rfl⟩:=jf hd
    rw [Nat.zero_add] at tt dp
    have hm:=JT (j:=i) (by omega)
    dsimp? only [tt.s,tt.fz]
    refine lE 9 hB tt (by omega) hm.2 dp (by omega) fun bag4 r4 hB4 hr4=>?_
    dsimp? only [hB4.clean,tt.s]
    exact hP _ ⟨bag4,r4,_,_,_,_,rfl,hB4,by rw [Nat.zero_add,← QS];exact hr4.t,by rw [Nat.zero_add];exact hr4.p⟩
   rintro ρ ⟨bag4,th,x1,x5,x7,x8,rfl,hB4,tt,dp⟩
   rw [jV,Nat.zero_add] at tt
   have hm:=JT (j:=1+r) (by omega)
   dsimp? only [tt.s,Lx (ds:=xs) (d:=th) (by omega)]
   exact hP _ ⟨bag4,xs++[th],_,_,_,_,_,rfl,hB4,hX.snoc (tt.mono hm.1),by rw [List.length_append];show _+1<=_;omega⟩
  rintro ρ ⟨bag3,xs,x1,x5,x6,x7,x8,rfl,hB3,hX,hL⟩
  rw [jV,Nat.zero_add] at hL
  dsimp? only [hsh,hfz]
  refine rR hT ?_
  rw [bT]
  dsimp? only [hsh]
  rw [D.fzs_fzs]
  have hF:=hX.fzs
  have hFl:(D.fzs xs).length=xs.length:=by rw [D.fzs_eq,List.length_map]
  generalize D.fzs xs=ys at hF hFl
  refine bR (by omega) ?_
  (try dsimp? only)
  refine dN (fun i ρ => ∃ x1 x2 x3 x4 x5 x6 x7 x8,ρ = [some (.scr ns),x1,x2,x3,x4,x5,x6,x7,x8]) 0 ⟨_,_,_,_,_,_,_,_,rfl⟩ ?_ ?_
  ·rintro i d ρ hd ⟨x1,x2,x3,x4,x5,x6,x7,x8,rfl⟩ P hP
   have td:=hF d (List.mem_of_getElem? hd)
   dsimp? only [td.fz]
   refine Cv td ?_
   dsimp? only [td.s,td.fz,HB]
   refine rR td ?_
   dsimp? only [td.s,td.fz,LQ]
   exact hP _ ⟨_,_,_,_,_,_,_,_,rfl⟩
  ·rintro ρ ⟨x1,x2,x3,x4,x5,x6,x7,x8,rfl⟩
   (try dsimp? only)
   exact hP _ ⟨_,_,_,_,_,_,_,_,rfl⟩
 ·rintro ρ ⟨x1,x2,x3,x4,x5,x6,x7,x8,rfl⟩
  dsimp? only
theorem qz:∀ ns:List Int,ns.length<=63->iW [.scr ns] fun r _=>r = .bl true:=by
 intro ns hns
 have es:iW=(fnS 1 8 false (aD (gU (cG (.val (sDo Ce [.val (sC (.int 1)),.val (sDo wJ [.val (sC (.int 4)),.val (sDo jQ [.nam 0])])]))) (gN 1) (lJ [2,3,4] (aD (bD 2 (aF 2 ik [.nam 0,.nam 1])) (aD (bD 3 (aA 3 dY 2 [.val (sC (.int 3)),.val (sC (.int 3))])) (aD (bD 4 wM) (aD (gU (cG (.val (sC (.int 6)))) (gN 5) (lJ [6] (aD (bD 6 (cu 3)) (aD (gU (cG (.val (sDo cC [.val (sC (.int 1)),.val (aA 2 aq 2 [.val (sC (.int 3))])]))) (gN 7) (bD 6 (aA 2 (cF 9) 2 [.nam 6]))) (jW (lW gG 4 [.val (cu 6)])))))) (aD (sIf (bB (bU (.val (aF 1 bY [.nam 3])))) (bI (sC (.bl false))) (bF)) (gU (jn (cu 4)) (gN 6) (lJ [8] (aD (bD 8 (aF 1 gk [.nam 6])) (sIf (fu (bB (bU (.val (sDo gC [.nam 8,.val (sC (.ty "bool"))])))) (tB' (sDo dNe [.nam 8,.val (aF 1 bY [.nam 6])]))) (bI (sC (.bl false))) (bF)))))))))))) (bI (sC (.bl true))))):=by unfold iW wM;with_reducible rfl
 rw [es]
 exact Fj (XH:=wM) Ed ns hns
end Z
namespace K40
open PySem L2 Z
section
variable {P:Program} {w:World} {K:PySem.W.Frag} {mg:Str->Option Value} {base:Heap}
theorem mR:FnScope ["thing"] ["thing"] (aC (top 1)):=⟨rfl,rfl,rfl,by decide +kernel,rfl,by decide +kernel,by decide +kernel⟩
theorem mK (T:Known K mg "is_whole_number" (top 1) ["thing"]) (ht:P.given.tree=none) (n_bool:mg "bool" = none) (n_int:mg "int" = none) (n_isinstance:mg "isinstance" = none):Prm P w K mg base "is_whole_number" 35 ["thing"] (aZ K 1 false cj):=by
 refine T.sem mR ht ?_
 rintro _ cdv f A outer s H E rfl hc
 exact aB (aN (cO (bf eE eF rfl n_isinstance bW (aj (sn 0) (aj (aa (lA rfl n_int uV)) ao))) (dw (GJ (bf eE eF rfl n_isinstance bW (aj (sn 0) (aj (aa (lA rfl n_bool nq)) ao)))))))
theorem vQ:FnScope ["thing", "low", "high"] ["thing", "low", "high"] (aC (top 2)):=⟨rfl,rfl,rfl,by decide +kernel,rfl,by decide +kernel,by decide +kernel⟩
theorem vK (T:Known K mg "is_within" (top 2) ["thing", "low", "high"]) (ht:P.given.tree=none) (G_is_whole_number:Prm P w K mg base "is_whole_number" 35 ["thing"] (aZ K 1 false cj)):Prm P w K mg base "is_within" 36 ["thing", "low", "high"] (aZ K 3 false aG):=by
 refine T.sem vQ ht ?_
 rintro _ cdv f A outer s H E rfl hc
 exact aB (aN (cO (aQ G_is_whole_number (hc.room.mono (by decide)) rfl (aj (sn 0) ao)) (dw (oA nY nY iR iR (sn 1) (sn 0) (sn 2)))))
theorem Dq:FnScope ["thing", "least", "most"] ["thing", "least", "most"] (aC (top 3)):=⟨rfl,rfl,rfl,by decide +kernel,rfl,by decide +kernel,by decide +kernel⟩
theorem De (T:Known K mg "is_row" (top 3) ["thing", "least", "most"]) (ht:P.given.tree=none) (n_isinstance:mg "isinstance" = none) (n_len:mg "len" = none) (n_tuple:mg "tuple" = none):Prm P w K mg base "is_row" 35 ["thing", "least", "most"] (aZ K 3 false bM):=by
 refine T.sem Dq ht ?_
 rintro _ cdv f A outer s H E rfl hc
 exact aB (aN (cO (bf eE eF rfl n_isinstance bW (aj (sn 0) (aj (aa (lA rfl n_tuple gD)) ao))) (dw (oA nY nY iR iR (sn 1) (aa (bf dg gF rfl n_len jD (aj (sn 0) ao))) (sn 2)))))
theorem ji:FnScope ["thing", "many", "one", "other", "stiffness", "most"] ["thing", "many"] (aC (top 5)):=⟨rfl,rfl,rfl,by decide +kernel,rfl,by decide +kernel,by decide +kernel⟩
theorem zj (T:Known K mg "is_line" (top 5) ["thing", "many"]) (ht:P.given.tree=none) (G_is_row:Prm P w K mg base "is_row" 35 ["thing", "least", "most"] (aZ K 3 false bM)) (G_is_within:Prm P w K mg base "is_within" 36 ["thing", "low", "high"] (aZ K 3 false aG)):Prm P w K mg base "is_line" 37 ["thing", "many"] (aZ K 2 false il):=by
 refine T.sem ji ht ?_
 rintro _ cdv f A outer s H E rfl hc
 exact az (cB (bj (aY (aa (aQ G_is_row (hc.room.mono (by decide)) rfl (aj (sn 0) (aj (aa (ak)) (aj (aa (ak)) ao)))))))
   (aB (aN (cI)))
   (bN))
   (az (mU (sv 0) (lM hc.calm (bz (aL (i:=2) rfl ji.nd rfl (by first | exact .inl rfl | exact .inr rfl)) (bz (aL (i:=3) rfl ji.nd rfl (by first | exact .inl rfl | exact .inr rfl)) (bz (aL (i:=4) rfl ji.nd rfl (by first | exact .inl rfl | exact .inr rfl)) (bz (aL (i:=5) rfl ji.nd rfl (by first | exact .inl rfl | exact .inr rfl)) jB)))) (goN [2,3,4,5])))
   (az (cB (SW.b (dz (bj (aY (aa (aQ G_is_within (hc.room.mono (by decide)) rfl (aj (sn 2) (aj (aa (ak)) (aj (aa (aK ig dM (sn 1) (aa (ak)))) ao))))))) (dz (bj (aY (aa (aQ G_is_within (hc.room.mono (by decide)) rfl (aj (sn 3) (aj (aa (ak)) (aj (aa (aK ig dM (sn 1) (aa (ak)))) ao))))))) (dD (eV (jL hc.room.units) iy (sn 2) (sn 3) (cY _))))))
   (aB (aN (cI)))
   (bN))
   (aB (aN (cO (aQ G_is_within (hc.room.mono (by decide)) rfl (aj (sn 4) (aj (aa (ak)) (aj (aa (ak)) ao)))) (dw (aQ G_is_within (hc.room.mono (by decide)) rfl (aj (sn 5) (aj (aa (ak)) (aj (aa (ak)) ao))))))))))
theorem cJ:FnScope ["many", "lines", "groups", "one", "other", "stiffness", "most", "kept", "gone"] ["many", "lines"] (aC (top 6)):=⟨rfl,rfl,rfl,by decide +kernel,rfl,by decide +kernel,by decide +kernel⟩
theorem tZ (T:Known K mg "are_joined" (top 6) ["many", "lines"]) (ht:P.given.tree=none) (n_len:mg "len" = none) (n_list:mg "list" = none) (n_range:mg "range" = none) (n_set:mg "set" = none):Prm P w K mg base "are_joined" 35 ["many", "lines"] (aZ K 2 false gO):=by
 refine T.sem cJ ht ?_
 rintro _ cdv f A outer s H E rfl hc
 exact az (bC (i:=2) rfl cJ.nd rfl (by first | exact .inl rfl | exact .inr rfl) (vR hc.calm rfl n_list rfl n_range (aj (sn 0) ao)))
   (az (iG PassesOwn.never hc.calm (gn (sv 1)) (lM hc.calm (bz (aL (i:=3) rfl cJ.nd rfl (by first | exact .inl rfl | exact .inr rfl)) (bz (aL (i:=4) rfl cJ.nd rfl (by first | exact .inl rfl | exact .inr rfl)) (bz (aL (i:=5) rfl cJ.nd rfl (by first | exact .inl rfl | exact .inr rfl)) (bz (aL (i:=6) rfl cJ.nd rfl (by first | exact .inl rfl | exact .inr rfl)) jB)))) (goN [3,4,5,6]))
   (az (mU (iw (aj (aa (aO (sn 2) (sn 3) (fun _ _=>rfl))) (aj (aa (aO (sn 2) (sn 4) (fun _ _=>rfl))) ao))) (lM hc.calm (bz (aL (i:=7) rfl cJ.nd rfl (by first | exact .inl rfl | exact .inr rfl)) (bz (aL (i:=8) rfl cJ.nd rfl (by first | exact .inl rfl | exact .inr rfl)) jB)) (goN [7,8])))
   (aB (Js (i:=2) (own:=["group"]) (fr:=[7,8]) rfl cJ.nd rfl (by first | exact .inl rfl | exact .inr rfl) hc.calm (gn (sv 2)) (CScope.of (by rfl)) (by decide) (fun _ _ _ _ _=>(aL (i:=0) rfl (iK (by rfl)) rfl (by first | exact .inl rfl | exact .inr rfl))) (fun _ _ _ _ _=>fQ) (fun _ _ _ _ _=>(PX (eV (jL hc.room.units) iy (sn 0) (sn 2) (cY _)) (sv 1) (sv 0)))))))
   (aB (aN (pM (jL hc.room.units) iy (aa (Ds hc.calm rfl n_len rfl n_set (aj (sn 2) ao))) (aa (ak)) (cY _)))))
theorem pL:FnScope ["thing", "many", "lines"] ["thing"] (aC (top 7)):=⟨rfl,rfl,rfl,by decide +kernel,rfl,by decide +kernel,by decide +kernel⟩
theorem Dd (T:Known K mg "is_net" (top 7) ["thing"]) (ht:P.given.tree=none) (n_all:mg "all" = none) (G_is_row:Prm P w K mg base "is_row" 35 ["thing", "least", "most"] (aZ K 3 false bM)) (G_is_within:Prm P w K mg base "is_within" 36 ["thing", "low", "high"] (aZ K 3 false aG)) (G_is_line:Prm P w K mg base "is_line" 37 ["thing", "many"] (aZ K 2 false il)) (G_are_joined:Prm P w K mg base "are_joined" 35 ["many", "lines"] (aZ K 2 false gO)):Prm P w K mg base "is_net" 38 ["thing"] (aZ K 1 false lL):=by
 refine T.sem pL ht ?_
 rintro _ cdv f A outer s H E rfl hc
 exact az (cB (bj (aY (aa (aQ G_is_row (hc.room.mono (by decide)) rfl (aj (sn 0) (aj (aa (ak)) (aj (aa (ak)) ao)))))))
   (aB (aN (cI)))
   (bN))
   (az (mU (sv 0) (lM hc.calm (bz (aL (i:=1) rfl pL.nd rfl (by first | exact .inl rfl | exact .inr rfl)) (bz (aL (i:=2) rfl pL.nd rfl (by first | exact .inl rfl | exact .inr rfl)) jB)) (goN [1,2])))
   (az (cB (SW.b (dz (bj (aY (aa (aQ G_is_within (hc.room.mono (by decide)) rfl (aj (sn 1) (aj (aa (ak)) (aj (aa (ak)) ao))))))) (dD (bj (aY (aa (aQ G_is_row (hc.room.mono (by decide)) rfl (aj (sn 2) (aj (aa (ak)) (aj (aa (ak)) ao))))))))))
   (aB (aN (cI)))
   (bN))
   (aB (aN (cO (bf (fV hc.calm) fX rfl n_all jC (aj (aa (gh (own:=["line"]) (fr:=[1]) hc.calm (gn (sv 2)) (CScope.of (by rfl)) (by decide) (fun _ _ _ _ _=>(aL (i:=0) rfl (iK (by rfl)) rfl (by first | exact .inl rfl | exact .inr rfl))) (fun _ _ _ _ _=>fQ) (fun _ _ _ _ _=>(aQ G_is_line (hc.room.mono (by decide)) rfl (aj (sn 0) (aj (sn 1) ao)))))) ao)) (dw (aQ G_are_joined (hc.room.mono (by decide)) rfl (aj (sn 1) (aj (sn 2) ao)))))))))
theorem yu:FnScope ["thing"] ["thing"] (aC (top 9)):=⟨rfl,rfl,rfl,by decide +kernel,rfl,by decide +kernel,by decide +kernel⟩
theorem xZ (T:Known K mg "is_piece" (top 9) ["thing"]) (ht:P.given.tree=none) (G_is_row:Prm P w K mg base "is_row" 35 ["thing", "least", "most"] (aZ K 3 false bM)) (G_is_within:Prm P w K mg base "is_within" 36 ["thing", "low", "high"] (aZ K 3 false aG)):Prm P w K mg base "is_piece" 37 ["thing"] (aZ K 1 false jg):=by
 refine T.sem yu ht ?_
 rintro _ cdv f A outer s H E rfl hc
 exact aB (aN (cO (aQ G_is_row (hc.room.mono (by decide)) rfl (aj (sn 0) (aj (aa (ak)) (aj (aa (ak)) ao)))) (cO (aQ G_is_within (hc.room.mono (by decide)) rfl (aj (aa (aO (sn 0) (aa (ak)) (fun _ _=>rfl))) (aj (aa (ak)) (aj (aa (ak)) ao)))) (dw (aQ G_is_within (hc.room.mono (by decide)) rfl (aj (aa (aO (sn 0) (aa (ak)) (fun _ _=>rfl))) (aj (aa (ak)) (aj (aa (ak)) ao))))))))
theorem ud:FnScope ["thing"] ["thing"] (aC (top 10)):=⟨rfl,rfl,rfl,by decide +kernel,rfl,by decide +kernel,by decide +kernel⟩
theorem uc (T:Known K mg "are_pieces" (top 10) ["thing"]) (ht:P.given.tree=none) (n_all:mg "all" = none) (G_is_row:Prm P w K mg base "is_row" 35 ["thing", "least", "most"] (aZ K 3 false bM)) (G_is_piece:Prm P w K mg base "is_piece" 37 ["thing"] (aZ K 1 false jg)):Prm P w K mg base "are_pieces" 38 ["thing"] (aZ K 1 false gP):=by
 refine T.sem ud ht ?_
 rintro _ cdv f A outer s H E rfl hc
 exact az (cB (SW.b (dz (bj (aY (aa (aQ G_is_row (hc.room.mono (by decide)) rfl (aj (sn 0) (aj (aa (ak)) (aj (aa (ak)) ao))))))) (dD (bj (aY (aa (bf (fV hc.calm) fX rfl n_all jC (aj (aa (gh (own:=["piece"]) (fr:=[]) hc.calm (gn (sv 0)) (CScope.of (by rfl)) (by decide) (fun _ _ _ _ _=>(aL (i:=0) rfl (iK (by rfl)) rfl (by first | exact .inl rfl | exact .inr rfl))) (fun _ _ _ _ _=>fQ) (fun _ _ _ _ _=>(aQ G_is_piece (hc.room.mono (by decide)) rfl (aj (sn 0) ao))))) ao))))))))
   (aB (aN (cI)))
   (bN))
   (aB (aN (pM nY iR (aa (gR gj dU (aa (aO (sn 0) (aa (ak)) (fun _ _=>rfl))) (aa (ak)) (fun _ _=>rfl))) (aa (gR gj dU (aa (aO (sn 0) (aa (uI pU jT (aa (ak)))) (fun _ _=>rfl))) (aa (ak)) (fun _ _=>rfl))) (cY _))))
theorem dZ:FnScope ["thing", "many", "place", "least", "keep", "pieces", "start", "stay", "rest", "was"] ["thing", "many"] (aC (top 11)):=⟨rfl,rfl,rfl,by decide +kernel,rfl,by decide +kernel,by decide +kernel⟩
theorem zp (T:Known K mg "is_work" (top 11) ["thing", "many"]) (ht:P.given.tree=none) (n_bool:mg "bool" = none) (n_isinstance:mg "isinstance" = none) (G_is_row:Prm P w K mg base "is_row" 35 ["thing", "least", "most"] (aZ K 3 false bM)) (G_is_within:Prm P w K mg base "is_within" 36 ["thing", "low", "high"] (aZ K 3 false aG)) (G_are_pieces:Prm P w K mg base "are_pieces" 38 ["thing"] (aZ K 1 false gP)):Prm P w K mg base "is_work" 39 ["thing", "many"] (aZ K 2 false jY):=by
 refine T.sem dZ ht ?_
 rintro _ cdv f A outer s H E rfl hc
 exact az (cB (bj (aY (aa (aQ G_is_row (hc.room.mono (by decide)) rfl (aj (sn 0) (aj (aa (ak)) (aj (aa (ak)) ao)))))))
   (aB (aN (cI)))
   (bN))
   (az (mU (sv 0) (lM hc.calm (bz (aL (i:=2) rfl dZ.nd rfl (by first | exact .inl rfl | exact .inr rfl)) (bz (aL (i:=3) rfl dZ.nd rfl (by first | exact .inl rfl | exact .inr rfl)) (bz (aL (i:=4) rfl dZ.nd rfl (by first | exact .inl rfl | exact .inr rfl)) (bz (aL (i:=5) rfl dZ.nd rfl (by first | exact .inl rfl | exact .inr rfl)) (bz (aL (i:=6) rfl dZ.nd rfl (by first | exact .inl rfl | exact .inr rfl)) (bz (aL (i:=7) rfl dZ.nd rfl (by first | exact .inl rfl | exact .inr rfl)) (bz (aL (i:=8) rfl dZ.nd rfl (by first | exact .inl rfl | exact .inr rfl)) (bz (aL (i:=9) rfl dZ.nd rfl (by first | exact .inl rfl | exact .inr rfl)) jB)))))))) (goN [2,3,4,5,6,7,8,9])))
   (az (cB (SW.b (dz (bj (aY (aa (aQ G_is_within (hc.room.mono (by decide)) rfl (aj (sn 2) (aj (aa (ak)) (aj (aa (aK ig dM (sn 1) (aa (ak)))) ao))))))) (dz (bj (aY (aa (aQ G_is_within (hc.room.mono (by decide)) rfl (aj (sn 3) (aj (aa (ak)) (aj (aa (ak)) ao))))))) (dD (bj (aY (aa (aQ G_is_within (hc.room.mono (by decide)) rfl (aj (sn 4) (aj (aa (ak)) (aj (aa (ak)) ao)))))))))))
   (aB (aN (cI)))
   (bN))
   (az (cB (SW.b (dz (bj (aY (aa (aQ G_are_pieces (hc.room.mono (by decide)) rfl (aj (sn 5) ao))))) (dD (bj (aY (aa (aQ G_is_within (hc.room.mono (by decide)) rfl (aj (sn 6) (aj (aa (ak)) (aj (aa (ak)) ao))))))))))
   (aB (aN (cI)))
   (bN))
   (aB (aN (cO (aQ G_is_within (hc.room.mono (by decide)) rfl (aj (sn 7) (aj (aa (ak)) (aj (aa (ak)) ao)))) (cO (aQ G_is_within (hc.room.mono (by decide)) rfl (aj (sn 8) (aj (aa (ak)) (aj (aa (ak)) ao)))) (dw (bf eE eF rfl n_isinstance bW (aj (sn 9) (aj (aa (lA rfl n_bool nq)) ao)))))))))))
theorem gA:FnScope ["thing", "many", "place", "top", "level", "taken", "given"] ["thing", "many"] (aC (top 12)):=⟨rfl,rfl,rfl,by decide +kernel,rfl,by decide +kernel,by decide +kernel⟩
theorem yc (T:Known K mg "is_store" (top 12) ["thing", "many"]) (ht:P.given.tree=none) (G_is_row:Prm P w K mg base "is_row" 35 ["thing", "least", "most"] (aZ K 3 false bM)) (G_is_within:Prm P w K mg base "is_within" 36 ["thing", "low", "high"] (aZ K 3 false aG)):Prm P w K mg base "is_store" 37 ["thing", "many"] (aZ K 2 false ir):=by
 refine T.sem gA ht ?_
 rintro _ cdv f A outer s H E rfl hc
 exact az (cB (eV Gf wO (sn 0) (aa (pN)) (cY _))
   (aB (aN (cI)))
   (bN))
   (az (cB (bj (aY (aa (aQ G_is_row (hc.room.mono (by decide)) rfl (aj (sn 0) (aj (aa (ak)) (aj (aa (ak)) ao)))))))
   (aB (aN (cI)))
   (bN))
   (az (mU (sv 0) (lM hc.calm (bz (aL (i:=2) rfl gA.nd rfl (by first | exact .inl rfl | exact .inr rfl)) (bz (aL (i:=3) rfl gA.nd rfl (by first | exact .inl rfl | exact .inr rfl)) (bz (aL (i:=4) rfl gA.nd rfl (by first | exact .inl rfl | exact .inr rfl)) (bz (aL (i:=5) rfl gA.nd rfl (by first | exact .inl rfl | exact .inr rfl)) (bz (aL (i:=6) rfl gA.nd rfl (by first | exact .inl rfl | exact .inr rfl)) jB))))) (goN [2,3,4,5,6])))
   (az (cB (SW.b (dz (bj (aY (aa (aQ G_is_within (hc.room.mono (by decide)) rfl (aj (sn 2) (aj (aa (ak)) (aj (aa (aK ig dM (sn 1) (aa (ak)))) ao))))))) (dz (bj (aY (aa (aQ G_is_within (hc.room.mono (by decide)) rfl (aj (sn 3) (aj (aa (ak)) (aj (aa (ak)) ao))))))) (dD (bj (aY (aa (aQ G_is_within (hc.room.mono (by decide)) rfl (aj (sn 4) (aj (aa (ak)) (aj (sn 3) ao)))))))))))
   (aB (aN (cI)))
   (bN))
   (aB (aN (cO (aQ G_is_within (hc.room.mono (by decide)) rfl (aj (sn 5) (aj (aa (ak)) (aj (aa (ak)) ao)))) (dw (aQ G_is_within (hc.room.mono (by decide)) rfl (aj (sn 6) (aj (aa (ak)) (aj (sn 5) ao)))))))))))
theorem kZ:FnScope ["thing", "many", "place", "size", "worth"] ["thing", "many"] (aC (top 13)):=⟨rfl,rfl,rfl,by decide +kernel,rfl,by decide +kernel,by decide +kernel⟩
theorem zm (T:Known K mg "is_want" (top 13) ["thing", "many"]) (ht:P.given.tree=none) (G_is_row:Prm P w K mg base "is_row" 35 ["thing", "least", "most"] (aZ K 3 false bM)) (G_is_within:Prm P w K mg base "is_within" 36 ["thing", "low", "high"] (aZ K 3 false aG)):Prm P w K mg base "is_want" 37 ["thing", "many"] (aZ K 2 false jX):=by
 refine T.sem kZ ht ?_
 rintro _ cdv f A outer s H E rfl hc
 exact az (cB (bj (aY (aa (aQ G_is_row (hc.room.mono (by decide)) rfl (aj (sn 0) (aj (aa (ak)) (aj (aa (ak)) ao)))))))
   (aB (aN (cI)))
   (bN))
   (az (mU (sv 0) (lM hc.calm (bz (aL (i:=2) rfl kZ.nd rfl (by first | exact .inl rfl | exact .inr rfl)) (bz (aL (i:=3) rfl kZ.nd rfl (by first | exact .inl rfl | exact .inr rfl)) (bz (aL (i:=4) rfl kZ.nd rfl (by first | exact .inl rfl | exact .inr rfl)) jB))) (goN [2,3,4])))
   (aB (aN (cO (aQ G_is_within (hc.room.mono (by decide)) rfl (aj (sn 2) (aj (aa (ak)) (aj (aa (aK ig dM (sn 1) (aa (ak)))) ao)))) (cO (aQ G_is_within (hc.room.mono (by decide)) rfl (aj (sn 3) (aj (aa (ak)) (aj (aa (ak)) ao)))) (dw (aQ G_is_within (hc.room.mono (by decide)) rfl (aj (sn 4) (aj (aa (ak)) (aj (aa (ak)) ao))))))))))
theorem vP:FnScope ["thing", "many"] ["thing", "many"] (aC (top 14)):=⟨rfl,rfl,rfl,by decide +kernel,rfl,by decide +kernel,by decide +kernel⟩
theorem vJ (T:Known K mg "are_wants" (top 14) ["thing", "many"]) (ht:P.given.tree=none) (n_all:mg "all" = none) (G_is_row:Prm P w K mg base "is_row" 35 ["thing", "least", "most"] (aZ K 3 false bM)) (G_is_want:Prm P w K mg base "is_want" 37 ["thing", "many"] (aZ K 2 false jX)):Prm P w K mg base "are_wants" 38 ["thing", "many"] (aZ K 2 false iD):=by
 refine T.sem vP ht ?_
 rintro _ cdv f A outer s H E rfl hc
 exact aB (aN (cO (aQ G_is_row (hc.room.mono (by decide)) rfl (aj (sn 0) (aj (aa (ak)) (aj (aa (ak)) ao)))) (dw (bf (fV hc.calm) fX rfl n_all jC (aj (aa (gh (own:=["want"]) (fr:=[1]) hc.calm (gn (sv 0)) (CScope.of (by rfl)) (by decide) (fun _ _ _ _ _=>(aL (i:=0) rfl (iK (by rfl)) rfl (by first | exact .inl rfl | exact .inr rfl))) (fun _ _ _ _ _=>fQ) (fun _ _ _ _ _=>(aQ G_is_want (hc.room.mono (by decide)) rfl (aj (sn 0) (aj (sn 1) ao)))))) ao)))))
theorem gw:FnScope ["thing", "net", "works", "store", "hours", "many"] ["thing"] (aC (top 15)):=⟨rfl,rfl,rfl,by decide +kernel,rfl,by decide +kernel,by decide +kernel⟩
theorem xY (T:Known K mg "is_house" (top 15) ["thing"]) (ht:P.given.tree=none) (n_all:mg "all" = none) (G_is_row:Prm P w K mg base "is_row" 35 ["thing", "least", "most"] (aZ K 3 false bM)) (G_is_net:Prm P w K mg base "is_net" 38 ["thing"] (aZ K 1 false lL)) (G_is_work:Prm P w K mg base "is_work" 39 ["thing", "many"] (aZ K 2 false jY)) (G_is_store:Prm P w K mg base "is_store" 37 ["thing", "many"] (aZ K 2 false ir)) (G_are_wants:Prm P w K mg base "are_wants" 38 ["thing", "many"] (aZ K 2 false iD)):Prm P w K mg base "is_house" 40 ["thing"] (aZ K 1 false gk):=by
 refine T.sem gw ht ?_
 rintro _ cdv f A outer s H E rfl hc
 exact az (cB (bj (aY (aa (aQ G_is_row (hc.room.mono (by decide)) rfl (aj (sn 0) (aj (aa (ak)) (aj (aa (ak)) ao)))))))
   (aB (aN (cI)))
   (bN))
   (az (mU (sv 0) (lM hc.calm (bz (aL (i:=1) rfl gw.nd rfl (by first | exact .inl rfl | exact .inr rfl)) (bz (aL (i:=2) rfl gw.nd rfl (by first | exact .inl rfl | exact .inr rfl)) (bz (aL (i:=3) rfl gw.nd rfl (by first | exact .inl rfl | exact .inr rfl)) (bz (aL (i:=4) rfl gw.nd rfl (by first | exact .inl rfl | exact .inr rfl)) jB)))) (goN [1,2,3,4])))
   (az (cB (SW.b (dz (bj (aY (aa (aQ G_is_net (hc.room.mono (by decide)) rfl (aj (sn 1) ao))))) (dz (bj (aY (aa (aQ G_is_row (hc.room.mono (by decide)) rfl (aj (sn 2) (aj (aa (ak)) (aj (aa (ak)) ao))))))) (dD (bj (aY (aa (aQ G_is_row (hc.room.mono (by decide)) rfl (aj (sn 4) (aj (aa (ak)) (aj (aa (ak)) ao)))))))))))
   (aB (aN (cI)))
   (bN))
   (az (bC (i:=5) rfl gw.nd rfl (by first | exact .inl rfl | exact .inr rfl) (aO (sn 1) (aa (ak)) (fun _ _=>rfl)))
   (az (cB (SW.b (dz (bj (aY (aa (bf (fV hc.calm) fX rfl n_all jC (aj (aa (gh (own:=["work"]) (fr:=[5]) hc.calm (gn (sv 2)) (CScope.of (by rfl)) (by decide) (fun _ _ _ _ _=>(aL (i:=0) rfl (iK (by rfl)) rfl (by first | exact .inl rfl | exact .inr rfl))) (fun _ _ _ _ _=>fQ) (fun _ _ _ _ _=>(aQ G_is_work (hc.room.mono (by decide)) rfl (aj (sn 0) (aj (sn 1) ao)))))) ao))))) (dD (bj (aY (aa (aQ G_is_store (hc.room.mono (by decide)) rfl (aj (sn 3) (aj (sn 5) ao)))))))))
   (aB (aN (cI)))
   (bN))
   (aB (aN (bf (fV hc.calm) fX rfl n_all jC (aj (aa (gh (own:=["wants"]) (fr:=[5]) hc.calm (gn (sv 4)) (CScope.of (by rfl)) (by decide) (fun _ _ _ _ _=>(aL (i:=0) rfl (iK (by rfl)) rfl (by first | exact .inl rfl | exact .inr rfl))) (fun _ _ _ _ _=>fQ) (fun _ _ _ _ _=>(aQ G_are_wants (hc.room.mono (by decide)) rfl (aj (sn 0) (aj (sn 1) ao)))))) ao))))))))
theorem fJ:FnScope ["_law_script", "_law_at", "_law_cell", "_law_mix", "_law_k"] ["_law_script", "_law_at"] (aC (top 17)):=⟨rfl,rfl,rfl,by decide +kernel,rfl,by decide +kernel,by decide +kernel⟩
theorem xU (T:Known K mg "_law_bag" (top 17) ["_law_script", "_law_at"]) (ht:P.given.tree=none) (n_abs:mg "abs" = none) (n_len:mg "len" = none) (n_min:mg "min" = none) (n_range:mg "range" = none):Prm P w K mg base "_law_bag" 35 ["_law_script", "_law_at"] (aZ K 2 false ik):=by
 refine T.sem fJ ht ?_
 rintro _ cdv f A outer s H E rfl hc
 exact az (bC (i:=2) rfl fJ.nd rfl (by first | exact .inl rfl | exact .inr rfl) (ak))
   (az (cB (eV JV zV (sn 1) (aa (bf dg gF rfl n_len jD (aj (sn 0) ao))) (cY _))
   (aB (bC (i:=2) rfl fJ.nd rfl (by first | exact .inl rfl | exact .inr rfl) (bf DQ Ei rfl n_abs Kq (aj (aa (aO (sn 0) (sn 1) (fun _ _=>rfl))) ao))))
   (bN))
   (az (bC (i:=3) rfl fJ.nd rfl (by first | exact .inl rfl | exact .inr rfl) (aK gK fD (aa (aK vL nF (aa (aK aW bu (aa (aK aW bu (aa (aK gK fD (sn 2) (aa (ak)))) (aa (aK ie jb (aa (ak)) (sn 1))))) (aa (ak)))) (aa (ak)))) (aa (ak))))
   (az (iG PassesOwn.never hc.calm (fU rfl n_range (aj (aa (bf (uo hc.calm) wU rfl n_min DP (aj (aa (bf dg gF rfl n_len jD (aj (sn 0) ao))) (aj (aa (ak)) ao)))) ao)) (aL (i:=4) rfl fJ.nd rfl (by first | exact .inl rfl | exact .inr rfl))
   (aB (bC (i:=3) rfl fJ.nd rfl (by first | exact .inl rfl | exact .inr rfl) (aK gK fD (aa (aK aW bu (aa (aK aW bu (aa (aK ie jb (sn 3) (aa (ak)))) (aa (aK ie jb (aa (aK gK fD (aa (aO (sn 0) (sn 4) (fun _ _=>rfl))) (aa (ak)))) (aa (aK aW bu (sn 4) (aa (ak)))))))) (sn 4))) (aa (ak))))))
   (az (cB (eV JV zV (sn 2) (aa (aK vL nF (aa (ak)) (aa (ak)))) (cY _))
   (aB (bC (i:=2) rfl fJ.nd rfl (by first | exact .inl rfl | exact .inr rfl) (ak)))
   (bN))
   (aB (aN (jk (aj (aa (sv 2)) (aj (aa (sv 3)) ao)))))))))
theorem ou:FnScope ["_law_bag_here", "_law_many", "_law_digit"] ["_law_bag_here", "_law_many"] (aC (top 18)):=⟨rfl,rfl,rfl,by decide +kernel,rfl,by decide +kernel,by decide +kernel⟩
theorem vH (T:Known K mg "_law_take" (top 18) ["_law_bag_here", "_law_many"]) (ht:P.given.tree=none):Prm P w K mg base "_law_take" 35 ["_law_bag_here", "_law_many"] (aZ K 2 true aq):=by
 refine T.sem ou ht ?_
 rintro _ cdv f A outer s H E rfl hc
 exact az (cB (eV yd nC (aa (aO (sn 0) (aa (ak)) (fun _ _=>rfl))) (aa (ak)) (cY _))
   (az (bC (i:=2) rfl ou.nd rfl (by first | exact .inl rfl | exact .inr rfl) (aK gK fD (aa (aO (sn 0) (aa (ak)) (fun _ _=>rfl))) (sn 1)))
   (az (yx (i:=0) rfl (by first | exact .inl rfl | exact .inr (.inl rfl) | exact .inr (.inr rfl)) (aK (sJ (Cc.mono hc (by decide))) oX (aa (aO (sn 0) (aa (ak)) (fun _ _=>rfl))) (sn 1)) (aa (ak)))
   (aB (Jt (i:=2) rfl rfl (by first | exact .inl rfl | exact .inr (.inl rfl) | exact .inr (.inr rfl))))))
   (bN))
   (az (yx (i:=0) rfl (by first | exact .inl rfl | exact .inr (.inl rfl) | exact .inr (.inr rfl)) (aK gK fD (aa (aK aW bu (aa (aK ie jb (aa (aO (sn 0) (aa (ak)) (fun _ _=>rfl))) (aa (ak)))) (aa (ak)))) (aa (ak))) (aa (ak)))
   (aB (aN (aK gK fD (aa (aK gK fD (aa (aK ie jb (aa (aK (sJ (Cc.mono hc (by decide))) oX (aa (aK gK fD (aa (aK vL nF (aa (aO (sn 0) (aa (ak)) (fun _ _=>rfl))) (aa (ak)))) (aa (ak)))) (aa (ak)))) (aa (ak)))) (aa (ak)))) (sn 1)))))
theorem iT:FnScope ["_law_bag_here", "_law_one", "_law_other", "_law_way", "_law_most", "_law_ends"] ["_law_bag_here", "_law_one", "_law_other"] (aC (top 19)):=⟨rfl,rfl,rfl,by decide +kernel,rfl,by decide +kernel,by decide +kernel⟩
theorem vG (T:Known K mg "_law_line" (top 19) ["_law_bag_here", "_law_one", "_law_other"]) (ht:P.given.tree=none) (n_int:mg "int" = none) (G__law_take:Prm P w K mg base "_law_take" 35 ["_law_bag_here", "_law_many"] (aZ K 2 true aq)):Prm P w K mg base "_law_line" 36 ["_law_bag_here", "_law_one", "_law_other"] (aZ K 3 true cQ):=by
 refine T.sem iT ht ?_
 rintro _ cdv f A outer s H E rfl hc
 exact az (bC (i:=3) rfl iT.nd rfl (by first | exact .inl rfl | exact .inr rfl) (bh G__law_take (hc.room.mono (by decide)) rfl (aj (sn 0) (aj (aa (ak)) ao))))
   (az (bC (i:=4) rfl iT.nd rfl (by first | exact .inl rfl | exact .inr rfl) (aK aW bu (aa (bh G__law_take (hc.room.mono (by decide)) rfl (aj (sn 0) (aj (aa (gR gj dU (aa (jk (aj (aa (ak)) (aj (aa (ak)) (aj (aa (ak)) (aj (aa (ak)) ao)))))) (sn 3) (fun _ _=>rfl))) ao)))) (aa (aK ie jb (aa (ak)) (aa (gB BZ Ej rfl n_int uV (aj (aa (pM (jL hc.room.units) iy (sn 3) (aa (ak)) (cY _))) ao)))))))
   (az (bC (i:=5) rfl iT.nd rfl (by first | exact .inl rfl | exact .inr rfl) (gR gj dU (aa (@oE _ _ _ _ (eU rfl (jA (aR rfl (aa (sv 1)) (aR rfl (aa (sv 2)) dH))) (eU rfl (jA (aR rfl (aa (sv 2)) (aR rfl (aa (sv 1)) dH))) dH)))) (aa (bh G__law_take (hc.room.mono (by decide)) rfl (aj (sn 0) (aj (aa (ak)) ao)))) (fun _ _=>rfl)))
   (aB (aN (aK aW bu (sn 5) (aa (iw (aj (aa (aK aW bu (aa (ak)) (aa (bh G__law_take (hc.room.mono (by decide)) rfl (aj (sn 0) (aj (aa (ak)) ao)))))) (aj (aa (sv 4)) ao)))))))))
theorem cR:FnScope ["_law_bag_here", "_law_many", "_law_more", "_law_lines", "_law_place", "_law_at", "_law_k", "_law_one"] ["_law_bag_here"] (aC (top 20)):=⟨rfl,rfl,rfl,by decide +kernel,rfl,by decide +kernel,by decide +kernel⟩
theorem xV (T:Known K mg "_law_net" (top 20) ["_law_bag_here"]) (ht:P.given.tree=none) (n_len:mg "len" = none) (n_range:mg "range" = none) (n_tuple:mg "tuple" = none) (G__law_take:Prm P w K mg base "_law_take" 35 ["_law_bag_here", "_law_many"] (aZ K 2 true aq)) (G__law_line:Prm P w K mg base "_law_line" 36 ["_law_bag_here", "_law_one", "_law_other"] (aZ K 3 true cQ)):Prm P w K mg base "_law_net" 37 ["_law_bag_here"] (aZ K 1 true fM):=by
 refine T.sem cR ht ?_
 rintro _ cdv f A outer s H E rfl hc
 exact az (bC (i:=1) rfl cR.nd rfl (by first | exact .inl rfl | exact .inr rfl) (aK aW bu (aa (ak)) (aa (bh G__law_take (hc.room.mono (by decide)) rfl (aj (sn 0) (aj (aa (ak)) ao))))))
   (az (bC (i:=2) rfl cR.nd rfl (by first | exact .inl rfl | exact .inr rfl) (ak))
   (az (cB (eV yd nC (sn 1) (aa (ak)) (cY _))
   (aB (bC (i:=2) rfl cR.nd rfl (by first | exact .inl rfl | exact .inr rfl) (bh G__law_take (hc.room.mono (by decide)) rfl (aj (sn 0) (aj (aa (aK ig dM (aa (ak)) (sn 1))) ao)))))
   (bN))
   (az (bC (i:=3) rfl cR.nd rfl (by first | exact .inl rfl | exact .inr rfl) (jk ao))
   (az (iG PassesOwn.never hc.calm (Dt rfl n_range (aj (aa (ak)) (aj (sn 1) ao))) (aL (i:=4) rfl cR.nd rfl (by first | exact .inl rfl | exact .inr rfl))
   (az (bC (i:=5) rfl cR.nd rfl (by first | exact .inl rfl | exact .inr rfl) (bh G__law_take (hc.room.mono (by decide)) rfl (aj (sn 0) (aj (aa (aK aW bu (aa (bf dg gF rfl n_len jD (aj (sn 3) ao))) (aa (ak)))) ao))))
   (aB (oF (sZ (i:=3) PySem.F.slot_list_insert PySem.F.type_list_insert uD ux rfl (by first | exact .inl rfl | exact .inr (.inl rfl) | exact .inr (.inr rfl)) (aj (aa (sv 5)) (aj (aa (bh G__law_line (hc.room.mono (by decide)) rfl (aj (sn 0) (aj (aa (bh G__law_take (hc.room.mono (by decide)) rfl (aj (sn 0) (aj (sn 4) ao)))) (aj (sn 4) ao))))) ao)))))))
   (az (iG PassesOwn.never hc.calm (fU rfl n_range (aj (sn 2) ao)) (aL (i:=6) rfl cR.nd rfl (by first | exact .inl rfl | exact .inr rfl))
   (az (bC (i:=5) rfl cR.nd rfl (by first | exact .inl rfl | exact .inr rfl) (bh G__law_take (hc.room.mono (by decide)) rfl (aj (sn 0) (aj (aa (aK aW bu (aa (bf dg gF rfl n_len jD (aj (sn 3) ao))) (aa (ak)))) ao))))
   (az (bC (i:=7) rfl cR.nd rfl (by first | exact .inl rfl | exact .inr rfl) (bh G__law_take (hc.room.mono (by decide)) rfl (aj (sn 0) (aj (sn 1) ao))))
   (aB (oF (sZ (i:=3) PySem.F.slot_list_insert PySem.F.type_list_insert uD ux rfl (by first | exact .inl rfl | exact .inr (.inl rfl) | exact .inr (.inr rfl)) (aj (aa (sv 5)) (aj (aa (bh G__law_line (hc.room.mono (by decide)) rfl (aj (sn 0) (aj (sn 7) (aj (aa (aK gK fD (aa (aK aW bu (aa (aK aW bu (sn 7) (aa (ak)))) (aa (bh G__law_take (hc.room.mono (by decide)) rfl (aj (sn 0) (aj (aa (aK ig dM (sn 1) (aa (ak)))) ao)))))) (sn 1))) ao))))) ao))))))))
   (aB (aN (iw (aj (aa (sv 1)) (aj (aa (gB fW jc rfl n_tuple gD (aj (sn 3) ao))) ao))))))))))
theorem du:FnScope ["_law_bag_here", "_law_many", "_law_small", "_law_least", "_law_keep", "_law_first", "_law_pieces", "_law_start", "_law_ends"] ["_law_bag_here", "_law_many"] (aC (top 21)):=⟨rfl,rfl,rfl,by decide +kernel,rfl,by decide +kernel,by decide +kernel⟩
theorem vI (T:Known K mg "_law_work" (top 21) ["_law_bag_here", "_law_many"]) (ht:P.given.tree=none) (n_tuple:mg "tuple" = none) (G__law_take:Prm P w K mg base "_law_take" 35 ["_law_bag_here", "_law_many"] (aZ K 2 true aq)):Prm P w K mg base "_law_work" 36 ["_law_bag_here", "_law_many"] (aZ K 2 true gr):=by
 refine T.sem du ht ?_
 rintro _ cdv f A outer s H E rfl hc
 exact az (bC (i:=2) rfl du.nd rfl (by first | exact .inl rfl | exact .inr rfl) (bh G__law_take (hc.room.mono (by decide)) rfl (aj (sn 0) (aj (aa (ak)) ao))))
   (az (bC (i:=3) rfl du.nd rfl (by first | exact .inl rfl | exact .inr rfl) (bh G__law_take (hc.room.mono (by decide)) rfl (aj (sn 0) (aj (aa (gR gj dU (aa (jk (aj (aa (ak)) (aj (aa (ak)) ao)))) (sn 2) (fun _ _=>rfl))) ao))))
   (az (bC (i:=4) rfl du.nd rfl (by first | exact .inl rfl | exact .inr rfl) (bh G__law_take (hc.room.mono (by decide)) rfl (aj (sn 0) (aj (aa (gR gj dU (aa (jk (aj (aa (ak)) (aj (aa (ak)) ao)))) (sn 2) (fun _ _=>rfl))) ao))))
   (az (bC (i:=5) rfl du.nd rfl (by first | exact .inl rfl | exact .inr rfl) (bh G__law_take (hc.room.mono (by decide)) rfl (aj (sn 0) (aj (aa (gR gj dU (aa (jk (aj (aa (ak)) (aj (aa (ak)) ao)))) (sn 2) (fun _ _=>rfl))) ao))))
   (az (bC (i:=6) rfl du.nd rfl (by first | exact .inl rfl | exact .inr rfl) (@oE _ _ _ _ (eU rfl (jA (aR rfl (aa (aK aW bu (aa (ak)) (aa (bh G__law_take (hc.room.mono (by decide)) rfl (aj (sn 0) (aj (aa (ak)) ao)))))) (aR rfl (aa (sv 5)) dH))) dH)))
   (az (cB (eV (jL hc.room.units) iy (aa (bh G__law_take (hc.room.mono (by decide)) rfl (aj (sn 0) (aj (aa (ak)) ao)))) (aa (ak)) (cY _))
   (aB (oF (sZ (i:=6) PySem.F.slot_list_append PySem.F.type_list_append pB oW rfl (by first | exact .inl rfl | exact .inr (.inl rfl) | exact .inr (.inr rfl)) (aj (aa (iw (aj (aa (aK aW bu (aa (ak)) (aa (bh G__law_take (hc.room.mono (by decide)) rfl (aj (sn 0) (aj (aa (ak)) ao)))))) (aj (aa (aK aW bu (sn 5) (aa (bh G__law_take (hc.room.mono (by decide)) rfl (aj (sn 0) (aj (aa (aK ig dM (aa (ak)) (sn 5))) ao)))))) ao)))) ao))))
   (bN))
   (az (bC (i:=7) rfl du.nd rfl (by first | exact .inl rfl | exact .inr rfl) (bh G__law_take (hc.room.mono (by decide)) rfl (aj (sn 0) (aj (aa (gR gj dU (aa (jk (aj (aa (ak)) (aj (aa (ak)) (aj (aa (ak)) ao))))) (aa (bh G__law_take (hc.room.mono (by decide)) rfl (aj (sn 0) (aj (aa (ak)) ao)))) (fun _ _=>rfl))) ao))))
   (az (bC (i:=8) rfl du.nd rfl (by first | exact .inl rfl | exact .inr rfl) (iw (aj (aa (aK aW bu (aa (ak)) (aa (bh G__law_take (hc.room.mono (by decide)) rfl (aj (sn 0) (aj (aa (ak)) ao)))))) (aj (aa (aK aW bu (aa (ak)) (aa (bh G__law_take (hc.room.mono (by decide)) rfl (aj (sn 0) (aj (aa (ak)) ao)))))) (aj (aa (pM (jL hc.room.units) iy (aa (bh G__law_take (hc.room.mono (by decide)) rfl (aj (sn 0) (aj (aa (ak)) ao)))) (aa (ak)) (cY _))) ao)))))
   (aB (aN (aK aW bu (aa (iw (aj (aa (bh G__law_take (hc.room.mono (by decide)) rfl (aj (sn 0) (aj (sn 1) ao)))) (aj (aa (sv 3)) (aj (aa (sv 4)) (aj (aa (gB fW jc rfl n_tuple gD (aj (sn 6) ao))) (aj (aa (sv 7)) ao))))))) (sn 8)))))))))))
theorem jM:FnScope ["_law_bag_here", "_law_many", "_law_top", "_law_taken"] ["_law_bag_here", "_law_many"] (aC (top 22)):=⟨rfl,rfl,rfl,by decide +kernel,rfl,by decide +kernel,by decide +kernel⟩
theorem tX (T:Known K mg "_law_store" (top 22) ["_law_bag_here", "_law_many"]) (ht:P.given.tree=none) (G__law_take:Prm P w K mg base "_law_take" 35 ["_law_bag_here", "_law_many"] (aZ K 2 true aq)):Prm P w K mg base "_law_store" 36 ["_law_bag_here", "_law_many"] (aZ K 2 true gM):=by
 refine T.sem jM ht ?_
 rintro _ cdv f A outer s H E rfl hc
 exact az (cB (eV (jL hc.room.units) iy (aa (bh G__law_take (hc.room.mono (by decide)) rfl (aj (sn 0) (aj (aa (ak)) ao)))) (aa (ak)) (cY _))
   (aB (aN (pN)))
   (bN))
   (az (bC (i:=2) rfl jM.nd rfl (by first | exact .inl rfl | exact .inr rfl) (aK aW bu (aa (ak)) (aa (bh G__law_take (hc.room.mono (by decide)) rfl (aj (sn 0) (aj (aa (ak)) ao))))))
   (az (bC (i:=3) rfl jM.nd rfl (by first | exact .inl rfl | exact .inr rfl) (aK aW bu (aa (ak)) (aa (bh G__law_take (hc.room.mono (by decide)) rfl (aj (sn 0) (aj (aa (ak)) ao))))))
   (aB (aN (iw (aj (aa (bh G__law_take (hc.room.mono (by decide)) rfl (aj (sn 0) (aj (sn 1) ao)))) (aj (aa (sv 2)) (aj (aa (bh G__law_take (hc.room.mono (by decide)) rfl (aj (sn 0) (aj (aa (aK aW bu (sn 2) (aa (ak)))) ao)))) (aj (aa (sv 3)) (aj (aa (bh G__law_take (hc.room.mono (by decide)) rfl (aj (sn 0) (aj (aa (aK aW bu (sn 3) (aa (ak)))) ao)))) ao))))))))))
theorem gb:FnScope ["_law_bag_here", "_law_many", "_law_found", "_law_k", "_law_worth"] ["_law_bag_here", "_law_many"] (aC (top 23)):=⟨rfl,rfl,rfl,by decide +kernel,rfl,by decide +kernel,by decide +kernel⟩
theorem tY (T:Known K mg "_law_wants" (top 23) ["_law_bag_here", "_law_many"]) (ht:P.given.tree=none) (n_range:mg "range" = none) (n_tuple:mg "tuple" = none) (G__law_take:Prm P w K mg base "_law_take" 35 ["_law_bag_here", "_law_many"] (aZ K 2 true aq)):Prm P w K mg base "_law_wants" 36 ["_law_bag_here", "_law_many"] (aZ K 2 true fP):=by
 refine T.sem gb ht ?_
 rintro _ cdv f A outer s H E rfl hc
 exact az (bC (i:=2) rfl gb.nd rfl (by first | exact .inl rfl | exact .inr rfl) (jk ao))
   (az (iG PassesOwn.never hc.calm (fU rfl n_range (aj (aa (bh G__law_take (hc.room.mono (by decide)) rfl (aj (sn 0) (aj (aa (ak)) ao)))) ao)) (aL (i:=3) rfl gb.nd rfl (by first | exact .inl rfl | exact .inr rfl))
   (az (bC (i:=4) rfl gb.nd rfl (by first | exact .inl rfl | exact .inr rfl) (bh G__law_take (hc.room.mono (by decide)) rfl (aj (sn 0) (aj (aa (ak)) ao))))
   (az (cB (eV (jL hc.room.units) iy (aa (bh G__law_take (hc.room.mono (by decide)) rfl (aj (sn 0) (aj (aa (ak)) ao)))) (aa (ak)) (cY _))
   (aB (bC (i:=4) rfl gb.nd rfl (by first | exact .inl rfl | exact .inr rfl) (ak)))
   (bN))
   (aB (oF (sZ (i:=2) PySem.F.slot_list_append PySem.F.type_list_append pB oW rfl (by first | exact .inl rfl | exact .inr (.inl rfl) | exact .inr (.inr rfl)) (aj (aa (iw (aj (aa (bh G__law_take (hc.room.mono (by decide)) rfl (aj (sn 0) (aj (sn 1) ao)))) (aj (aa (bh G__law_take (hc.room.mono (by decide)) rfl (aj (sn 0) (aj (aa (gR gj dU (aa (jk (aj (aa (ak)) (aj (aa (ak)) ao)))) (aa (bh G__law_take (hc.room.mono (by decide)) rfl (aj (sn 0) (aj (aa (ak)) ao)))) (fun _ _=>rfl))) ao)))) (aj (aa (sv 4)) ao))))) ao)))))))
   (aB (aN (gB fW jc rfl n_tuple gD (aj (sn 2) ao)))))
theorem fZ:FnScope ["_law_bag_here", "_law_works", "_law_hours", "_law_net_here", "_law_some", "_law_store_here", "_law_wants_here"] ["_law_bag_here", "_law_works", "_law_hours"] (aC (top 24)):=⟨rfl,rfl,rfl,by decide +kernel,rfl,by decide +kernel,by decide +kernel⟩
theorem tW (T:Known K mg "_law_house" (top 24) ["_law_bag_here", "_law_works", "_law_hours"]) (ht:P.given.tree=none) (n_range:mg "range" = none) (n_tuple:mg "tuple" = none) (G__law_net:Prm P w K mg base "_law_net" 37 ["_law_bag_here"] (aZ K 1 true fM)) (G__law_take:Prm P w K mg base "_law_take" 35 ["_law_bag_here", "_law_many"] (aZ K 2 true aq)) (G__law_work:Prm P w K mg base "_law_work" 36 ["_law_bag_here", "_law_many"] (aZ K 2 true gr)) (G__law_store:Prm P w K mg base "_law_store" 36 ["_law_bag_here", "_law_many"] (aZ K 2 true gM)) (G__law_wants:Prm P w K mg base "_law_wants" 36 ["_law_bag_here", "_law_many"] (aZ K 2 true fP)):Prm P w K mg base "_law_house" 38 ["_law_bag_here", "_law_works", "_law_hours"] (aZ K 3 true dY):=by
 refine T.sem fZ ht ?_
 rintro _ cdv f A outer s H E rfl hc
 exact az (bC (i:=3) rfl fZ.nd rfl (by first | exact .inl rfl | exact .inr rfl) (bh G__law_net (hc.room.mono (by decide)) rfl (aj (sn 0) ao)))
   (az (bC (i:=4) rfl fZ.nd rfl (by first | exact .inl rfl | exact .inr rfl) (gB fW jc rfl n_tuple gD (aj (aa (gh (own:=["_law_k"]) (fr:=[0,3]) hc.calm (fU rfl n_range (aj (aa (bh G__law_take (hc.room.mono (by decide)) rfl (aj (sn 0) (aj (aa (aK aW bu (sn 1) (aa (ak)))) ao)))) ao)) (CScope.of (by rfl)) (by decide) (fun _ _ _ _ _=>(aL (i:=0) rfl (iK (by rfl)) rfl (by first | exact .inl rfl | exact .inr rfl))) (fun _ _ _ _ _=>fQ) (fun _ _ _ _ _=>(bh G__law_work (hc.room.mono (by decide)) rfl (aj (sn 1) (aj (aa (aO (sn 2) (aa (ak)) (fun _ _=>rfl))) ao)))))) ao)))
   (az (bC (i:=5) rfl fZ.nd rfl (by first | exact .inl rfl | exact .inr rfl) (bh G__law_store (hc.room.mono (by decide)) rfl (aj (sn 0) (aj (aa (aO (sn 3) (aa (ak)) (fun _ _=>rfl))) ao))))
   (az (bC (i:=6) rfl fZ.nd rfl (by first | exact .inl rfl | exact .inr rfl) (gB fW jc rfl n_tuple gD (aj (aa (gh (own:=["_law_k"]) (fr:=[0,3]) hc.calm (fU rfl n_range (aj (aa (aK aW bu (aa (ak)) (aa (bh G__law_take (hc.room.mono (by decide)) rfl (aj (sn 0) (aj (sn 2) ao)))))) ao)) (CScope.of (by rfl)) (by decide) (fun _ _ _ _ _=>(aL (i:=0) rfl (iK (by rfl)) rfl (by first | exact .inl rfl | exact .inr rfl))) (fun _ _ _ _ _=>fQ) (fun _ _ _ _ _=>(bh G__law_wants (hc.room.mono (by decide)) rfl (aj (sn 1) (aj (aa (aO (sn 2) (aa (ak)) (fun _ _=>rfl))) ao)))))) ao)))
   (aB (aN (iw (aj (aa (sv 3)) (aj (aa (sv 4)) (aj (aa (sv 5)) (aj (aa (sv 6)) ao))))))))))
theorem vO:FnScope ["_law_thing", "_law_least", "_law_most"] ["_law_thing", "_law_least", "_law_most"] (aC (top 25)):=⟨rfl,rfl,rfl,by decide +kernel,rfl,by decide +kernel,by decide +kernel⟩
theorem vD (T:Known K mg "_law_from" (top 25) ["_law_thing", "_law_least", "_law_most"]) (ht:P.given.tree=none) (n_bool:mg "bool" = none) (n_int:mg "int" = none) (n_isinstance:mg "isinstance" = none):Prm P w K mg base "_law_from" 35 ["_law_thing", "_law_least", "_law_most"] (aZ K 3 false aJ):=by
 refine T.sem vO ht ?_
 rintro _ cdv f A outer s H E rfl hc
 exact aB (aN (cO (bf eE eF rfl n_isinstance bW (aj (sn 0) (aj (aa (lA rfl n_int uV)) ao))) (cO (GJ (bf eE eF rfl n_isinstance bW (aj (sn 0) (aj (aa (lA rfl n_bool nq)) ao)))) (dw (oA nY nY iR iR (sn 1) (sn 0) (sn 2))))))
theorem yt:FnScope ["_law_thing", "_law_least", "_law_most"] ["_law_thing", "_law_least", "_law_most"] (aC (top 26)):=⟨rfl,rfl,rfl,by decide +kernel,rfl,by decide +kernel,by decide +kernel⟩
theorem xX (T:Known K mg "_law_row" (top 26) ["_law_thing", "_law_least", "_law_most"]) (ht:P.given.tree=none) (n_isinstance:mg "isinstance" = none) (n_len:mg "len" = none) (n_tuple:mg "tuple" = none):Prm P w K mg base "_law_row" 35 ["_law_thing", "_law_least", "_law_most"] (aZ K 3 false aP):=by
 refine T.sem yt ht ?_
 rintro _ cdv f A outer s H E rfl hc
 exact aB (aN (cO (bf eE eF rfl n_isinstance bW (aj (sn 0) (aj (aa (lA rfl n_tuple gD)) ao))) (dw (oA nY nY iR iR (sn 1) (aa (bf dg gF rfl n_len jD (aj (sn 0) ao))) (sn 2)))))
theorem qC:FnScope ["_law_thing", "_law_many"] ["_law_thing", "_law_many"] (aC (top 27)):=⟨rfl,rfl,rfl,by decide +kernel,rfl,by decide +kernel,by decide +kernel⟩
theorem qw (T:Known K mg "_law_is_line" (top 27) ["_law_thing", "_law_many"]) (ht:P.given.tree=none) (n_all:mg "all" = none) (G__law_row:Prm P w K mg base "_law_row" 35 ["_law_thing", "_law_least", "_law_most"] (aZ K 3 false aP)) (G__law_from:Prm P w K mg base "_law_from" 35 ["_law_thing", "_law_least", "_law_most"] (aZ K 3 false aJ)):Prm P w K mg base "_law_is_line" 36 ["_law_thing", "_law_many"] (aZ K 2 false cU):=by
 refine T.sem qC ht ?_
 rintro _ cdv f A outer s H E rfl hc
 exact az (cB (SW.b (dz (bj (aY (aa (aQ G__law_row (hc.room.mono (by decide)) rfl (aj (sn 0) (aj (aa (ak)) (aj (aa (ak)) ao))))))) (dD (bj (aY (aa (bf (fV hc.calm) fX rfl n_all jC (aj (aa (gh (own:=["_law_end"]) (fr:=[1]) hc.calm (gn (qQ (sn 0) (aa (ak)))) (CScope.of (by rfl)) (by decide) (fun _ _ _ _ _=>(aL (i:=0) rfl (iK (by rfl)) rfl (by first | exact .inl rfl | exact .inr rfl))) (fun _ _ _ _ _=>fQ) (fun _ _ _ _ _=>(aQ G__law_from (hc.room.mono (by decide)) rfl (aj (sn 0) (aj (aa (ak)) (aj (aa (aK ig dM (sn 1) (aa (ak)))) ao))))))) ao))))))))
   (aB (aN (cI)))
   (bN))
   (aB (aN (cO (pM (Gg hc.room.units) zW (aa (aO (sn 0) (aa (ak)) (fun _ _=>rfl))) (aa (aO (sn 0) (aa (ak)) (fun _ _=>rfl))) (cY _)) (cO (aQ G__law_from (hc.room.mono (by decide)) rfl (aj (aa (aO (sn 0) (aa (ak)) (fun _ _=>rfl))) (aj (aa (ak)) (aj (aa (ak)) ao)))) (dw (aQ G__law_from (hc.room.mono (by decide)) rfl (aj (aa (aO (sn 0) (aa (ak)) (fun _ _=>rfl))) (aj (aa (ak)) (aj (aa (ak)) ao)))))))))
theorem gQ:FnScope ["_law_thing", "_law_met", "_law_turn", "_law_line_here"] ["_law_thing"] (aC (top 28)):=⟨rfl,rfl,rfl,by decide +kernel,rfl,by decide +kernel,by decide +kernel⟩
theorem sI (T:Known K mg "_law_is_net" (top 28) ["_law_thing"]) (ht:P.given.tree=none) (n_all:mg "all" = none) (n_len:mg "len" = none) (n_range:mg "range" = none) (G__law_row:Prm P w K mg base "_law_row" 35 ["_law_thing", "_law_least", "_law_most"] (aZ K 3 false aP)) (G__law_from:Prm P w K mg base "_law_from" 35 ["_law_thing", "_law_least", "_law_most"] (aZ K 3 false aJ)) (G__law_is_line:Prm P w K mg base "_law_is_line" 36 ["_law_thing", "_law_many"] (aZ K 2 false cU)):Prm P w K mg base "_law_is_net" 37 ["_law_thing"] (aZ K 1 false eQ):=by
 refine T.sem gQ ht ?_
 rintro _ cdv f A outer s H E rfl hc
 exact az (cB (SW.b (dz (bj (aY (aa (aQ G__law_row (hc.room.mono (by decide)) rfl (aj (sn 0) (aj (aa (ak)) (aj (aa (ak)) ao))))))) (dz (bj (aY (aa (aQ G__law_from (hc.room.mono (by decide)) rfl (aj (aa (aO (sn 0) (aa (ak)) (fun _ _=>rfl))) (aj (aa (ak)) (aj (aa (ak)) ao))))))) (dD (bj (aY (aa (aQ G__law_row (hc.room.mono (by decide)) rfl (aj (aa (aO (sn 0) (aa (ak)) (fun _ _=>rfl))) (aj (aa (ak)) (aj (aa (ak)) ao)))))))))))
   (aB (aN (cI)))
   (bN))
   (az (cB (bj (aY (aa (bf (fV hc.calm) fX rfl n_all jC (aj (aa (gh (own:=["_law_line_here"]) (fr:=[0]) hc.calm (gn (aO (sn 0) (aa (ak)) (fun _ _=>rfl))) (CScope.of (by rfl)) (by decide) (fun _ _ _ _ _=>(aL (i:=0) rfl (iK (by rfl)) rfl (by first | exact .inl rfl | exact .inr rfl))) (fun _ _ _ _ _=>fQ) (fun _ _ _ _ _=>(aQ G__law_is_line (hc.room.mono (by decide)) rfl (aj (sn 0) (aj (aa (aO (sn 1) (aa (ak)) (fun _ _=>rfl))) ao)))))) ao)))))
   (aB (aN (cI)))
   (bN))
   (az (bC (i:=1) rfl gQ.nd rfl (by first | exact .inl rfl | exact .inr rfl) (Jm))
   (az (iG PassesOwn.never hc.calm (fU rfl n_range (aj (aa (aO (sn 0) (aa (ak)) (fun _ _=>rfl))) ao)) (aL (i:=2) rfl gQ.nd rfl (by first | exact .inl rfl | exact .inr rfl))
   (aB (iG PassesOwn.never hc.calm (gn (aO (sn 0) (aa (ak)) (fun _ _=>rfl))) (aL (i:=3) rfl gQ.nd rfl (by first | exact .inl rfl | exact .inr rfl))
   (aB (cB (SW.b (dz (eV Ge wN (aa (aO (sn 3) (aa (ak)) (fun _ _=>rfl))) (sn 1) rfl) (dD (eV Ge wN (aa (aO (sn 3) (aa (ak)) (fun _ _=>rfl))) (sn 1) rfl))))
   (az (By (pvn 1) (aO (sn 3) (aa (ak)) (fun _ _=>rfl)) (cI))
   (aB (By (pvn 1) (aO (sn 3) (aa (ak)) (fun _ _=>rfl)) (cI))))
   (bN))))))
   (aB (aN (pM (jL hc.room.units) iy (aa (bf Ca Cp rfl n_len jD (aj (sn 1) ao))) (aa (aO (sn 0) (aa (ak)) (fun _ _=>rfl))) (cY _)))))))
theorem pJ:FnScope ["_law_thing"] ["_law_thing"] (aC (top 29)):=⟨rfl,rfl,rfl,by decide +kernel,rfl,by decide +kernel,by decide +kernel⟩
theorem pF (T:Known K mg "_law_is_piece" (top 29) ["_law_thing"]) (ht:P.given.tree=none) (G__law_row:Prm P w K mg base "_law_row" 35 ["_law_thing", "_law_least", "_law_most"] (aZ K 3 false aP)) (G__law_from:Prm P w K mg base "_law_from" 35 ["_law_thing", "_law_least", "_law_most"] (aZ K 3 false aJ)):Prm P w K mg base "_law_is_piece" 36 ["_law_thing"] (aZ K 1 false eN):=by
 refine T.sem pJ ht ?_
 rintro _ cdv f A outer s H E rfl hc
 exact aB (aN (cO (aQ G__law_row (hc.room.mono (by decide)) rfl (aj (sn 0) (aj (aa (ak)) (aj (aa (ak)) ao)))) (cO (aQ G__law_from (hc.room.mono (by decide)) rfl (aj (aa (aO (sn 0) (aa (ak)) (fun _ _=>rfl))) (aj (aa (ak)) (aj (aa (ak)) ao)))) (dw (aQ G__law_from (hc.room.mono (by decide)) rfl (aj (aa (aO (sn 0) (aa (ak)) (fun _ _=>rfl))) (aj (aa (ak)) (aj (aa (ak)) ao))))))))
theorem qF:FnScope ["_law_thing", "_law_many"] ["_law_thing", "_law_many"] (aC (top 30)):=⟨rfl,rfl,rfl,by decide +kernel,rfl,by decide +kernel,by decide +kernel⟩
theorem qy (T:Known K mg "_law_is_work" (top 30) ["_law_thing", "_law_many"]) (ht:P.given.tree=none) (n_all:mg "all" = none) (n_bool:mg "bool" = none) (n_isinstance:mg "isinstance" = none) (G__law_row:Prm P w K mg base "_law_row" 35 ["_law_thing", "_law_least", "_law_most"] (aZ K 3 false aP)) (G__law_from:Prm P w K mg base "_law_from" 35 ["_law_thing", "_law_least", "_law_most"] (aZ K 3 false aJ)) (G__law_is_piece:Prm P w K mg base "_law_is_piece" 36 ["_law_thing"] (aZ K 1 false eN)):Prm P w K mg base "_law_is_work" 37 ["_law_thing", "_law_many"] (aZ K 2 false fH):=by
 refine T.sem qF ht ?_
 rintro _ cdv f A outer s H E rfl hc
 exact az (cB (SW.b (dz (bj (aY (aa (aQ G__law_row (hc.room.mono (by decide)) rfl (aj (sn 0) (aj (aa (ak)) (aj (aa (ak)) ao))))))) (dz (bj (aY (aa (aQ G__law_from (hc.room.mono (by decide)) rfl (aj (aa (aO (sn 0) (aa (ak)) (fun _ _=>rfl))) (aj (aa (ak)) (aj (aa (aK ig dM (sn 1) (aa (ak)))) ao))))))) (dD (bj (aY (aa (aQ G__law_from (hc.room.mono (by decide)) rfl (aj (aa (aO (sn 0) (aa (ak)) (fun _ _=>rfl))) (aj (aa (ak)) (aj (aa (ak)) ao)))))))))))
   (aB (aN (cI)))
   (bN))
   (az (cB (SW.b (dz (bj (aY (aa (aQ G__law_from (hc.room.mono (by decide)) rfl (aj (aa (aO (sn 0) (aa (ak)) (fun _ _=>rfl))) (aj (aa (ak)) (aj (aa (ak)) ao))))))) (dz (bj (aY (aa (aQ G__law_row (hc.room.mono (by decide)) rfl (aj (aa (aO (sn 0) (aa (ak)) (fun _ _=>rfl))) (aj (aa (ak)) (aj (aa (ak)) ao))))))) (dD (bj (aY (aa (aQ G__law_from (hc.room.mono (by decide)) rfl (aj (aa (aO (sn 0) (aa (ak)) (fun _ _=>rfl))) (aj (aa (ak)) (aj (aa (ak)) ao)))))))))))
   (aB (aN (cI)))
   (bN))
   (az (cB (SW.b (dz (bj (aY (aa (bf (fV hc.calm) fX rfl n_all jC (aj (aa (gh (own:=["_law_piece"]) (fr:=[]) hc.calm (gn (aO (sn 0) (aa (ak)) (fun _ _=>rfl))) (CScope.of (by rfl)) (by decide) (fun _ _ _ _ _=>(aL (i:=0) rfl (iK (by rfl)) rfl (by first | exact .inl rfl | exact .inr rfl))) (fun _ _ _ _ _=>fQ) (fun _ _ _ _ _=>(aQ G__law_is_piece (hc.room.mono (by decide)) rfl (aj (sn 0) ao))))) ao))))) (dD (eV yd nC (aa (gR gj dU (aa (gR gj dU (aa (aO (sn 0) (aa (ak)) (fun _ _=>rfl))) (aa (ak)) (fun _ _=>rfl))) (aa (ak)) (fun _ _=>rfl))) (aa (gR gj dU (aa (gR gj dU (aa (aO (sn 0) (aa (ak)) (fun _ _=>rfl))) (aa (uI pU jT (aa (ak)))) (fun _ _=>rfl))) (aa (ak)) (fun _ _=>rfl))) (cY _)))))
   (aB (aN (cI)))
   (bN))
   (aB (aN (cO (aQ G__law_from (hc.room.mono (by decide)) rfl (aj (aa (aO (sn 0) (aa (ak)) (fun _ _=>rfl))) (aj (aa (ak)) (aj (aa (ak)) ao)))) (cO (aQ G__law_from (hc.room.mono (by decide)) rfl (aj (aa (aO (sn 0) (aa (ak)) (fun _ _=>rfl))) (aj (aa (ak)) (aj (aa (ak)) ao)))) (dw (bf eE eF rfl n_isinstance bW (aj (aa (aO (sn 0) (aa (ak)) (fun _ _=>rfl))) (aj (aa (lA rfl n_bool nq)) ao))))))))))
theorem pK:FnScope ["_law_thing", "_law_many"] ["_law_thing", "_law_many"] (aC (top 31)):=⟨rfl,rfl,rfl,by decide +kernel,rfl,by decide +kernel,by decide +kernel⟩
theorem pH (T:Known K mg "_law_is_store" (top 31) ["_law_thing", "_law_many"]) (ht:P.given.tree=none) (G__law_row:Prm P w K mg base "_law_row" 35 ["_law_thing", "_law_least", "_law_most"] (aZ K 3 false aP)) (G__law_from:Prm P w K mg base "_law_from" 35 ["_law_thing", "_law_least", "_law_most"] (aZ K 3 false aJ)):Prm P w K mg base "_law_is_store" 36 ["_law_thing", "_law_many"] (aZ K 2 false cZ):=by
 refine T.sem pK ht ?_
 rintro _ cdv f A outer s H E rfl hc
 exact az (cB (eV Gf wO (sn 0) (aa (pN)) (cY _))
   (aB (aN (cI)))
   (bN))
   (az (cB (SW.b (dz (bj (aY (aa (aQ G__law_row (hc.room.mono (by decide)) rfl (aj (sn 0) (aj (aa (ak)) (aj (aa (ak)) ao))))))) (dz (bj (aY (aa (aQ G__law_from (hc.room.mono (by decide)) rfl (aj (aa (aO (sn 0) (aa (ak)) (fun _ _=>rfl))) (aj (aa (ak)) (aj (aa (aK ig dM (sn 1) (aa (ak)))) ao))))))) (dD (bj (aY (aa (aQ G__law_from (hc.room.mono (by decide)) rfl (aj (aa (aO (sn 0) (aa (ak)) (fun _ _=>rfl))) (aj (aa (ak)) (aj (aa (ak)) ao)))))))))))
   (aB (aN (cI)))
   (bN))
   (aB (aN (cO (aQ G__law_from (hc.room.mono (by decide)) rfl (aj (aa (aO (sn 0) (aa (ak)) (fun _ _=>rfl))) (aj (aa (ak)) (aj (aa (aO (sn 0) (aa (ak)) (fun _ _=>rfl))) ao)))) (cO (aQ G__law_from (hc.room.mono (by decide)) rfl (aj (aa (aO (sn 0) (aa (ak)) (fun _ _=>rfl))) (aj (aa (ak)) (aj (aa (ak)) ao)))) (dw (aQ G__law_from (hc.room.mono (by decide)) rfl (aj (aa (aO (sn 0) (aa (ak)) (fun _ _=>rfl))) (aj (aa (ak)) (aj (aa (aO (sn 0) (aa (ak)) (fun _ _=>rfl))) ao))))))))))
theorem qD:FnScope ["_law_thing", "_law_many"] ["_law_thing", "_law_many"] (aC (top 32)):=⟨rfl,rfl,rfl,by decide +kernel,rfl,by decide +kernel,by decide +kernel⟩
theorem qx (T:Known K mg "_law_is_want" (top 32) ["_law_thing", "_law_many"]) (ht:P.given.tree=none) (G__law_row:Prm P w K mg base "_law_row" 35 ["_law_thing", "_law_least", "_law_most"] (aZ K 3 false aP)) (G__law_from:Prm P w K mg base "_law_from" 35 ["_law_thing", "_law_least", "_law_most"] (aZ K 3 false aJ)):Prm P w K mg base "_law_is_want" 36 ["_law_thing", "_law_many"] (aZ K 2 false fG):=by
 refine T.sem qD ht ?_
 rintro _ cdv f A outer s H E rfl hc
 exact az (cB (SW.b (dz (bj (aY (aa (aQ G__law_row (hc.room.mono (by decide)) rfl (aj (sn 0) (aj (aa (ak)) (aj (aa (ak)) ao))))))) (dD (bj (aY (aa (aQ G__law_from (hc.room.mono (by decide)) rfl (aj (aa (aO (sn 0) (aa (ak)) (fun _ _=>rfl))) (aj (aa (ak)) (aj (aa (aK ig dM (sn 1) (aa (ak)))) ao))))))))))
   (aB (aN (cI)))
   (bN))
   (aB (aN (cO (aQ G__law_from (hc.room.mono (by decide)) rfl (aj (aa (aO (sn 0) (aa (ak)) (fun _ _=>rfl))) (aj (aa (ak)) (aj (aa (ak)) ao)))) (dw (aQ G__law_from (hc.room.mono (by decide)) rfl (aj (aa (aO (sn 0) (aa (ak)) (fun _ _=>rfl))) (aj (aa (ak)) (aj (aa (ak)) ao))))))))
theorem iu:FnScope ["_law_thing", "_law_many", "_law_wants_here"] ["_law_thing"] (aC (top 33)):=⟨rfl,rfl,rfl,by decide +kernel,rfl,by decide +kernel,by decide +kernel⟩
theorem pD (T:Known K mg "_law_is_house" (top 33) ["_law_thing"]) (ht:P.given.tree=none) (n_all:mg "all" = none) (G__law_row:Prm P w K mg base "_law_row" 35 ["_law_thing", "_law_least", "_law_most"] (aZ K 3 false aP)) (G__law_is_net:Prm P w K mg base "_law_is_net" 37 ["_law_thing"] (aZ K 1 false eQ)) (G__law_is_work:Prm P w K mg base "_law_is_work" 37 ["_law_thing", "_law_many"] (aZ K 2 false fH)) (G__law_is_store:Prm P w K mg base "_law_is_store" 36 ["_law_thing", "_law_many"] (aZ K 2 false cZ)) (G__law_is_want:Prm P w K mg base "_law_is_want" 36 ["_law_thing", "_law_many"] (aZ K 2 false fG)):Prm P w K mg base "_law_is_house" 38 ["_law_thing"] (aZ K 1 false bY):=by
 refine T.sem iu ht ?_
 rintro _ cdv f A outer s H E rfl hc
 exact az (cB (SW.b (dz (bj (aY (aa (aQ G__law_row (hc.room.mono (by decide)) rfl (aj (sn 0) (aj (aa (ak)) (aj (aa (ak)) ao))))))) (dD (bj (aY (aa (aQ G__law_is_net (hc.room.mono (by decide)) rfl (aj (aa (aO (sn 0) (aa (ak)) (fun _ _=>rfl))) ao))))))))
   (aB (aN (cI)))
   (bN))
   (az (bC (i:=1) rfl iu.nd rfl (by first | exact .inl rfl | exact .inr rfl) (gR gj dU (aa (aO (sn 0) (aa (ak)) (fun _ _=>rfl))) (aa (ak)) (fun _ _=>rfl)))
   (az (cB (SW.b (dz (bj (aY (aa (aQ G__law_row (hc.room.mono (by decide)) rfl (aj (aa (aO (sn 0) (aa (ak)) (fun _ _=>rfl))) (aj (aa (ak)) (aj (aa (ak)) ao))))))) (dD (bj (aY (aa (bf (fV hc.calm) fX rfl n_all jC (aj (aa (gh (own:=["_law_work_here"]) (fr:=[1]) hc.calm (gn (aO (sn 0) (aa (ak)) (fun _ _=>rfl))) (CScope.of (by rfl)) (by decide) (fun _ _ _ _ _=>(aL (i:=0) rfl (iK (by rfl)) rfl (by first | exact .inl rfl | exact .inr rfl))) (fun _ _ _ _ _=>fQ) (fun _ _ _ _ _=>(aQ G__law_is_work (hc.room.mono (by decide)) rfl (aj (sn 0) (aj (sn 1) ao)))))) ao))))))))
   (aB (aN (cI)))
   (bN))
   (az (cB (SW.b (dz (bj (aY (aa (aQ G__law_is_store (hc.room.mono (by decide)) rfl (aj (aa (aO (sn 0) (aa (ak)) (fun _ _=>rfl))) (aj (sn 1) ao)))))) (dD (bj (aY (aa (aQ G__law_row (hc.room.mono (by decide)) rfl (aj (aa (aO (sn 0) (aa (ak)) (fun _ _=>rfl))) (aj (aa (ak)) (aj (aa (ak)) ao))))))))))
   (aB (aN (cI)))
   (bN))
   (az (iG PassesOwn.never hc.calm (gn (aO (sn 0) (aa (ak)) (fun _ _=>rfl))) (aL (i:=2) rfl iu.nd rfl (by first | exact .inl rfl | exact .inr rfl))
   (aB (cB (SW.b (dz (bj (aY (aa (aQ G__law_row (hc.room.mono (by decide)) rfl (aj (sn 2) (aj (aa (ak)) (aj (aa (ak)) ao))))))) (dD (bj (aY (aa (bf (fV hc.calm) fX rfl n_all jC (aj (aa (gh (own:=["_law_want"]) (fr:=[1]) hc.calm (gn (sv 2)) (CScope.of (by rfl)) (by decide) (fun _ _ _ _ _=>(aL (i:=0) rfl (iK (by rfl)) rfl (by first | exact .inl rfl | exact .inr rfl))) (fun _ _ _ _ _=>fQ) (fun _ _ _ _ _=>(aQ G__law_is_want (hc.room.mono (by decide)) rfl (aj (sn 0) (aj (sn 1) ao)))))) ao))))))))
   (aB (aN (cI)))
   (bN))))
   (aB (aN (cI)))))))
theorem jz:FnScope ["_law_bag_here", "_law_thing", "_law_way", "_law_some"] ["_law_bag_here", "_law_thing"] (aC (top 34)):=⟨rfl,rfl,rfl,by decide +kernel,rfl,by decide +kernel,by decide +kernel⟩
theorem xW (T:Known K mg "_law_odd" (top 34) ["_law_bag_here", "_law_thing"]) (ht:P.given.tree=none) (n_int:mg "int" = none) (n_isinstance:mg "isinstance" = none) (n_list:mg "list" = none) (n_tuple:mg "tuple" = none) (G__law_take:Prm P w K mg base "_law_take" 35 ["_law_bag_here", "_law_many"] (aZ K 2 true aq)):Prm P w K mg base "_law_odd" 36 ["_law_bag_here", "_law_thing"] (aZ K 2 true fO):=by
 refine T.sem jz ht ?_
 rintro _ cdv f A outer s H E rfl hc
 exact az (bC (i:=2) rfl jz.nd rfl (by first | exact .inl rfl | exact .inr rfl) (bh G__law_take (hc.room.mono (by decide)) rfl (aj (sn 0) (aj (aa (ak)) ao))))
   (az (cB (aY (aa (bf eE eF rfl n_isinstance bW (aj (sn 1) (aj (aa (lA rfl n_tuple gD)) ao)))))
   (az (bC (i:=3) rfl jz.nd rfl (by first | exact .inl rfl | exact .inr rfl) (@oE _ _ _ _ (aR rfl (aa (gB nu qb rfl n_list zQ (aj (sn 1) ao))) (aR rfl (aa (aK aW bu (sn 1) (aa (iw (aj (aa (ak)) ao))))) (aR rfl (aa (qQ (sn 1) (aa (uI pU jT (aa (ak)))))) (eU rfl (jA dH) (aR rfl (aa (pN)) (aR rfl (aa (ak)) (aR rfl (aa (aK aW bu (sn 1) (aa (Bu (sn 1) (aa (uI pU jT (aa (ak)))))))) (aR rfl (aa (Jo (sn 1) (aa (uI pU jT (aa (ak)))))) (eU rfl (jA (aR rfl (aa (sv 1)) dH)) dH)))))))))))
   (aB (aN (aO (sn 3) (aa (aK (sJ (Cc.mono hc (by decide))) oX (sn 2) (aa (ak)))) (fun _ _=>rfl)))))
   (bN))
   (az (bC (i:=3) rfl jz.nd rfl (by first | exact .inl rfl | exact .inr rfl) (@oE _ _ _ _ (aR rfl (aa (pN)) (aR rfl (aa (cI)) (aR rfl (aa (cI)) (aR rfl (aa (ak)) (aR rfl (aa (uI pU jT (aa (ak)))) (aR rfl (aa (ak)) (aR rfl (aa (ak)) (aR rfl (aa (ak)) (aR rfl (aa (ak)) (aR rfl (aa (ak)) (aR rfl (aa (ak)) (aR rfl (aa (ak)) (aR rfl (aa (ak)) (aR rfl (aa (aK vL nF (aa (ak)) (aa (ak)))) (aR rfl (aa (zF)) (eU rfl (jA dH) (eU rfl (Bv (aR rfl (aa (sv 1)) dH)) (aR rfl (aa (zF)) dH))))))))))))))))))))
   (az (cB (SW.b (zG (aY (aa (bf eE eF rfl n_isinstance bW (aj (sn 1) (aj (aa (lA rfl n_int uV)) ao))))) (BK (eV (jL hc.room.units) iy (aa (bh G__law_take (hc.room.mono (by decide)) rfl (aj (sn 0) (aj (aa (ak)) ao)))) (aa (ak)) (cY _)))))
   (aB (aN (aK ig dM (aa (aK Gb Cm (sn 1) (aa (ak)))) (aa (aK ie jb (aa (ak)) (aa (aK gK fD (sn 2) (aa (ak)))))))))
   (bN))
   (aB (aN (aO (sn 3) (sn 2) (fun _ _=>rfl)))))))
theorem jh:FnScope ["_law_bag_here", "_law_thing", "_law_at"] ["_law_bag_here", "_law_thing"] (aC (top 35)):=⟨rfl,rfl,rfl,by decide +kernel,rfl,by decide +kernel,by decide +kernel⟩
theorem lF (T:Known K mg "_law_spoilt" (top 35) ["_law_bag_here", "_law_thing"]) (ht:P.given.tree=none) (n_isinstance:mg "isinstance" = none) (n_len:mg "len" = none) (n_tuple:mg "tuple" = none) (G__law_take:Prm P w K mg base "_law_take" 35 ["_law_bag_here", "_law_many"] (aZ K 2 true aq)) (G__law_odd:Prm P w K mg base "_law_odd" 36 ["_law_bag_here", "_law_thing"] (aZ K 2 true fO)):∀ m:Nat,Prm P w K mg base "_law_spoilt" (37+m) ["_law_bag_here", "_law_thing"] (aZ K 2 true (cF m))
 | 0=>T.sem jh ht (by rintro _ cdv f A outer s H E rfl hc;exact GP)
 | m+1=>by
  have G__law_spoilt:=lF T ht n_isinstance n_len n_tuple G__law_take G__law_odd m
  refine T.sem (k:=37+m) jh ht ?_
  rintro _ cdv f A outer s H E rfl hc
  exact az (cB (SW.b (zG (aY (aa (bf eE eF rfl n_isinstance bW (aj (sn 1) (aj (aa (lA rfl n_tuple gD)) ao))))) (zG (eV yd nC (aa (bf dg gF rfl n_len jD (aj (sn 1) ao))) (aa (ak)) (cY _)) (BK (eV yd nC (aa (bh G__law_take (hc.room.mono (by omega)) rfl (aj (sn 0) (aj (aa (ak)) ao)))) (aa (ak)) (cY _))))))
    (az (bC (i:=2) rfl jh.nd rfl (by first | exact .inl rfl | exact .inr rfl) (bh G__law_take (hc.room.mono (by omega)) rfl (aj (sn 0) (aj (aa (bf dg gF rfl n_len jD (aj (sn 1) ao))) ao))))
    (aB (aN (aK aW bu (aa (aK aW bu (aa (qQ (sn 1) (sn 2))) (aa (iw (aj (aa (bh G__law_spoilt (hc.room.mono (by omega)) rfl (aj (sn 0) (aj (aa (aO (sn 1) (sn 2) (fun _ _=>rfl))) ao)))) ao))))) (aa (Bu (sn 1) (aa (aK aW bu (sn 2) (aa (ak))))))))))
    (bN))
    (aB (aN (bh G__law_odd (hc.room.mono (by omega)) rfl (aj (sn 0) (aj (sn 1) ao)))))
theorem jj:FnScope ["_law_script", "_law_k", "_law_bag_here", "_law_house_here", "_law_things", "_law_turn", "_law_thing", "_law_again", "_law_told"] ["_law_script"] (aC (top 36)):=⟨rfl,rfl,rfl,by decide +kernel,rfl,by decide +kernel,by decide +kernel⟩
theorem Mf {f:Addr} {fd:FuncData} (T:Fun K "law" "law" (top 36) f fd) (ht:P.given.tree=none) (n_bool:mg "bool" = none) (n_isinstance:mg "isinstance" = none) (n_len:mg "len" = none) (n_list:mg "list" = none) (n_max:mg "max" = none) (n_min:mg "min" = none) (n_range:mg "range" = none) (G__law_bag:Prm P w K mg base "_law_bag" 35 ["_law_script", "_law_at"] (aZ K 2 false ik)) (G__law_house:Prm P w K mg base "_law_house" 38 ["_law_bag_here", "_law_works", "_law_hours"] (aZ K 3 true dY)) (G__law_take:Prm P w K mg base "_law_take" 35 ["_law_bag_here", "_law_many"] (aZ K 2 true aq)) (G__law_spoilt:Prm P w K mg base "_law_spoilt" 46 ["_law_bag_here", "_law_thing"] (aZ K 2 true (cF 9))) (G__law_is_house:Prm P w K mg base "_law_is_house" 38 ["_law_thing"] (aZ K 1 false bY)) (G_is_house:Prm P w K mg base "is_house" 40 ["thing"] (aZ K 1 false gk)):FnOk P w K mg base CX0 47 f fd ["_law_script"] (aZ K 1 false iW):=by
 refine T.sem jj ht ?_
 rintro _ cdv f A outer s H E rfl hc
 exact az (iG PassesOwn.never hc.calm (fU rfl n_range (aj (aa (bf (Cd hc.calm) Ek rfl n_max Kr (aj (aa (ak)) (aj (aa (bf (uo hc.calm) wU rfl n_min DP (aj (aa (ak)) (aj (aa (bf dg gF rfl n_len jD (aj (sn 0) ao))) ao)))) ao)))) ao)) (aL (i:=1) rfl jj.nd rfl (by first | exact .inl rfl | exact .inr rfl))
   (vU [2,3,4] (az (bC (i:=2) rfl jj.nd rfl (by first | exact .inl rfl | exact .inr rfl) (aQ G__law_bag (hc.room.mono (by decide)) rfl (aj (sn 0) (aj (sn 1) ao))))
   (az (bC (i:=3) rfl jj.nd rfl (by first | exact .inl rfl | exact .inr rfl) (bh G__law_house (hc.room.mono (by decide)) rfl (aj (sn 2) (aj (aa (ak)) (aj (aa (ak)) ao)))))
   (az (bC (i:=4) rfl jj.nd rfl (by first | exact .inl rfl | exact .inr rfl) (@oE _ _ _ _ (aR rfl (aa (sv 3)) (aR rfl (aa (pN)) (eU rfl (jA dH) (eU rfl (Bv dH) (aR rfl (aa (ak)) (aR rfl (aa (cI)) (aR rfl (aa (zF)) (aR rfl (aa (gB nu qb rfl n_list zQ (aj (sn 3) ao))) (aR rfl (aa (qQ (sn 3) (aa (ak)))) (aR rfl (aa (aK aW bu (sn 3) (aa (@Jp _ _ _ _ _ (eU rfl (jA dH) dH))))) dH))))))))))))
   (az (iG PassesOwn.never hc.calm (fU rfl n_range (aj (aa (ak)) ao)) (aL (i:=5) rfl jj.nd rfl (by first | exact .inl rfl | exact .inr rfl))
   (vU [6] (az (bC (i:=6) rfl jj.nd rfl (by first | exact .inl rfl | exact .inr rfl) (sv 3))
   (az (iG PassesOwn.never hc.calm (fU rfl n_range (aj (aa (aK aW bu (aa (ak)) (aa (bh G__law_take (hc.room.mono (by decide)) rfl (aj (sn 2) (aj (aa (ak)) ao)))))) ao)) (aL (i:=7) rfl jj.nd rfl (by first | exact .inl rfl | exact .inr rfl))
   (aB (bC (i:=6) rfl jj.nd rfl (by first | exact .inl rfl | exact .inr rfl) (bh G__law_spoilt (hc.room.mono (by decide)) rfl (aj (sn 2) (aj (sn 6) ao))))))
   (aB (oF (sZ (i:=4) PySem.F.slot_list_append PySem.F.type_list_append pB oW rfl (by first | exact .inl rfl | exact .inr (.inl rfl) | exact .inr (.inr rfl)) (aj (aa (sv 6)) ao))))))))
   (az (cB (bj (aY (aa (aQ G__law_is_house (hc.room.mono (by decide)) rfl (aj (sn 3) ao)))))
   (aB (aN (cI)))
   (bN))
   (aB (iG PassesOwn.never hc.calm (gn (sv 4)) (aL (i:=6) rfl jj.nd rfl (by first | exact .inl rfl | exact .inr rfl))
   (vU [8] (az (bC (i:=8) rfl jj.nd rfl (by first | exact .inl rfl | exact .inr rfl) (aQ G_is_house (hc.room.mono (by decide)) rfl (aj (sn 6) ao)))
   (aB (cB (SW.b (dz (bj (aY (aa (bf eE eF rfl n_isinstance bW (aj (sn 8) (aj (aa (lA rfl n_bool nq)) ao)))))) (dD (eV (Gg hc.room.units) zW (sn 8) (aa (aQ G__law_is_house (hc.room.mono (by decide)) rfl (aj (sn 6) ao))) (cY _)))))
   (aB (aN (cI)))
   (bN))))))))))))))
   (aB (aN (cI)))
theorem Ho {f:Addr} {fd:FuncData} (TL:Fun K "law" "law" (top 36) f fd) (ht:P.given.tree=none)
  (T_is_whole_number:Known K mg "is_whole_number" (top 1) ["thing"])
  (T_is_within:Known K mg "is_within" (top 2) ["thing", "low", "high"])
  (T_is_row:Known K mg "is_row" (top 3) ["thing", "least", "most"])
  (T_is_line:Known K mg "is_line" (top 5) ["thing", "many"])
  (T_are_joined:Known K mg "are_joined" (top 6) ["many", "lines"])
  (T_is_net:Known K mg "is_net" (top 7) ["thing"])
  (T_is_piece:Known K mg "is_piece" (top 9) ["thing"])
  (T_are_pieces:Known K mg "are_pieces" (top 10) ["thing"])
  (T_is_work:Known K mg "is_work" (top 11) ["thing", "many"])
  (T_is_store:Known K mg "is_store" (top 12) ["thing", "many"])
  (T_is_want:Known K mg "is_want" (top 13) ["thing", "many"])
  (T_are_wants:Known K mg "are_wants" (top 14) ["thing", "many"])
  (T_is_house:Known K mg "is_house" (top 15) ["thing"])
  (T__law_bag:Known K mg "_law_bag" (top 17) ["_law_script", "_law_at"])
  (T__law_take:Known K mg "_law_take" (top 18) ["_law_bag_here", "_law_many"])
  (T__law_line:Known K mg "_law_line" (top 19) ["_law_bag_here", "_law_one", "_law_other"])
  (T__law_net:Known K mg "_law_net" (top 20) ["_law_bag_here"])
  (T__law_work:Known K mg "_law_work" (top 21) ["_law_bag_here", "_law_many"])
  (T__law_store:Known K mg "_law_store" (top 22) ["_law_bag_here", "_law_many"])
  (T__law_wants:Known K mg "_law_wants" (top 23) ["_law_bag_here", "_law_many"])
  (T__law_house:Known K mg "_law_house" (top 24) ["_law_bag_here", "_law_works", "_law_hours"])
  (T__law_from:Known K mg "_law_from" (top 25) ["_law_thing", "_law_least", "_law_most"])
  (T__law_row:Known K mg "_law_row" (top 26) ["_law_thing", "_law_least", "_law_most"])
  (T__law_is_line:Known K mg "_law_is_line" (top 27) ["_law_thing", "_law_many"])
  (T__law_is_net:Known K mg "_law_is_net" (top 28) ["_law_thing"])
  (T__law_is_piece:Known K mg "_law_is_piece" (top 29) ["_law_thing"])
  (T__law_is_work:Known K mg "_law_is_work" (top 30) ["_law_thing", "_law_many"])
  (T__law_is_store:Known K mg "_law_is_store" (top 31) ["_law_thing", "_law_many"])
  (T__law_is_want:Known K mg "_law_is_want" (top 32) ["_law_thing", "_law_many"])
  (T__law_is_house:Known K mg "_law_is_house" (top 33) ["_law_thing"])
  (T__law_odd:Known K mg "_law_odd" (top 34) ["_law_bag_here", "_law_thing"])
  (T__law_spoilt:Known K mg "_law_spoilt" (top 35) ["_law_bag_here", "_law_thing"])
  (n_abs:mg "abs" = none) (n_all:mg "all" = none) (n_bool:mg "bool" = none) (n_int:mg "int" = none) (n_isinstance:mg "isinstance" = none) (n_len:mg "len" = none) (n_list:mg "list" = none) (n_max:mg "max" = none) (n_min:mg "min" = none) (n_range:mg "range" = none) (n_set:mg "set" = none) (n_tuple:mg "tuple" = none) (base:Heap):FnOk P w K mg base CX0 47 f fd ["_law_script"] (aZ K 1 false iW):=by
 have G_is_whole_number:=mK (P:=P) (w:=w) (base:=base) T_is_whole_number ht n_bool n_int n_isinstance
 have G_is_within:=vK (P:=P) (w:=w) (base:=base) T_is_within ht G_is_whole_number
 have G_is_row:=De (P:=P) (w:=w) (base:=base) T_is_row ht n_isinstance n_len n_tuple
 have G_is_line:=zj (P:=P) (w:=w) (base:=base) T_is_line ht G_is_row G_is_within
 have G_are_joined:=tZ (P:=P) (w:=w) (base:=base) T_are_joined ht n_len n_list n_range n_set
 have G_is_net:=Dd (P:=P) (w:=w) (base:=base) T_is_net ht n_all G_is_row G_is_within G_is_line G_are_joined
 have G_is_piece:=xZ (P:=P) (w:=w) (base:=base) T_is_piece ht G_is_row G_is_within
 have G_are_pieces:=uc (P:=P) (w:=w) (base:=base) T_are_pieces ht n_all G_is_row G_is_piece
 have G_is_work:=zp (P:=P) (w:=w) (base:=base) T_is_work ht n_bool n_isinstance G_is_row G_is_within G_are_pieces
 have G_is_store:=yc (P:=P) (w:=w) (base:=base) T_is_store ht G_is_row G_is_within
 have G_is_want:=zm (P:=P) (w:=w) (base:=base) T_is_want ht G_is_row G_is_within
 have G_are_wants:=vJ (P:=P) (w:=w) (base:=base) T_are_wants ht n_all G_is_row G_is_want
 have G_is_house:=xY (P:=P) (w:=w) (base:=base) T_is_house ht n_all G_is_row G_is_net G_is_work G_is_store G_are_wants
 have G__law_bag:=xU (P:=P) (w:=w) (base:=base) T__law_bag ht n_abs n_len n_min n_range
 have G__law_take:=vH (P:=P) (w:=w) (base:=base) T__law_take ht
 have G__law_line:=vG (P:=P) (w:=w) (base:=base) T__law_line ht n_int G__law_take
 have G__law_net:=xV (P:=P) (w:=w) (base:=base) T__law_net ht n_len n_range n_tuple G__law_take G__law_line
 have G__law_work:=vI (P:=P) (w:=w) (base:=base) T__law_work ht n_tuple G__law_take
 have G__law_store:=tX (P:=P) (w:=w) (base:=base) T__law_store ht G__law_take
 have G__law_wants:=tY (P:=P) (w:=w) (base:=base) T__law_wants ht n_range n_tuple G__law_take
 have G__law_house:=tW (P:=P) (w:=w) (base:=base) T__law_house ht n_range n_tuple G__law_net G__law_take G__law_work G__law_store G__law_wants
 have G__law_from:=vD (P:=P) (w:=w) (base:=base) T__law_from ht n_bool n_int n_isinstance
 have G__law_row:=xX (P:=P) (w:=w) (base:=base) T__law_row ht n_isinstance n_len n_tuple
 have G__law_is_line:=qw (P:=P) (w:=w) (base:=base) T__law_is_line ht n_all G__law_row G__law_from
 have G__law_is_net:=sI (P:=P) (w:=w) (base:=base) T__law_is_net ht n_all n_len n_range G__law_row G__law_from G__law_is_line
 have G__law_is_piece:=pF (P:=P) (w:=w) (base:=base) T__law_is_piece ht G__law_row G__law_from
 have G__law_is_work:=qy (P:=P) (w:=w) (base:=base) T__law_is_work ht n_all n_bool n_isinstance G__law_row G__law_from G__law_is_piece
 have G__law_is_store:=pH (P:=P) (w:=w) (base:=base) T__law_is_store ht G__law_row G__law_from
 have G__law_is_want:=qx (P:=P) (w:=w) (base:=base) T__law_is_want ht G__law_row G__law_from
 have G__law_is_house:=pD (P:=P) (w:=w) (base:=base) T__law_is_house ht n_all G__law_row G__law_is_net G__law_is_work G__law_is_store G__law_is_want
 have G__law_odd:=xW (P:=P) (w:=w) (base:=base) T__law_odd ht n_int n_isinstance n_list n_tuple G__law_take
 have G__law_spoilt:=lF (P:=P) (w:=w) (base:=base) T__law_spoilt ht n_isinstance n_len n_tuple G__law_take G__law_odd 9
 exact Mf TL ht n_bool n_isinstance n_len n_list n_max n_min n_range G__law_bag G__law_house G__law_take G__law_spoilt G__law_is_house G_is_house
end
theorem Lj {K:PySem.W.Frag} {mg:Str->Option Value} {h:Heap} {fa f:Addr} (X:K.In h) (G:h.Ns mainGlobals mg) (hfa:mg "law" = some (.ref fa)) {oc:Value} {od an:Option Addr} {osl:Array (Option Value)} {kV doc pm cdv ct:Value}
  (a:PySem.W.nsIn K mainGlobals "law" = some (some (.ref f))) (l:K.lookup f=some ⟨oc,od,.func (PySem.W.fnOf "law" "law" (iQ (top 36)) (fL (top 36)) (aC (top 36)) .none kV doc pm an cdv ct),osl⟩)
  (c:PySem.W.codeIn K cdv "law" = true) (k:PySem.W.keepIn K (.ref f)=true):∃ fd:FuncData,L2.Fun K "law" "law" (top 36) fa fd ∧ ∀ (s:Shared) (u:Value),BindsTo s fd ⟨[u],[]⟩ [("_law_script",u)]:=by
 have e:=hfa.symm.trans (PySem.W.mg_of X G a)
 cases e
 exact ⟨_,yQ l c k,fun s v=>.of_eq rfl⟩
end K40
open PySem PySem.W PyProof.Rows
set_option maxRecDepth 100000 in
set_option maxHeartbeats 0 in
theorem PySem.Challenge.cw_mainskeep_k40_houses_of_any_thing_holds : PySem.Challenge.rw_mainskeep_k40_houses_of_any_thing.Holds := by
 w_on;refine PySem.W.holds_law K40.said fun said=>?_
 refine holds_open (q:=K40.q) (loose:=[]) (XP:=XL K40.q []) (YP:=Hook.says (PySem.W.kHook K40.heap K40.addrs K40.lB)) (d:=K40.rQ) (kwd:=[]) K40.left (Hook.of (PySem.W.kHook K40.heap K40.addrs K40.lB)) (Hook.keeps (PySem.W.kHook K40.heap K40.addrs K40.lB)) (fun s e=>xl_of s (Bool.and_eq_true_iff.mp e).1) XL.keeps K40.HJ K40.HN rfl (fun s e=>recFacts_of (Bool.and_eq_true_iff.mp e).2) rfl (by first | assumption | decide +kernel) (by decide +kernel) ⟨rfl,rfl,rfl,rfl,rfl,by decide +kernel⟩ ?hw ?hc
 (case hw=>w_witness2)
 k_fill
 refine L2.Hg (l:=PySem.Challenge.rw_mainskeep_k40_houses_of_any_thing) (k:=47) (x:= "_law_script") (sf:=Z.iW) rfl rfl (by decide +kernel) ⟨rfl,by decide,by decide⟩ (fun w h Y=>PySem.W.kIn_of Y) Z.qz ?F
 case F=>
  intro w mg fa h KX G hmg
  have T_is_whole_number:L2.Known (L2.KOf KX) mg "is_whole_number" (K40.top 1) ["thing"]:=by
   dsimp only [L2.KOf]
   refine' L2.bx KX G ?a ?l ?c ?k fun _ _ _ _ _ _ us hl=>match us,hl with | [_],_=>rfl
   (case a=>k_is);(case l=>k_is);(case c=>k_is);(case k=>k_is)
  have T_is_within:L2.Known (L2.KOf KX) mg "is_within" (K40.top 2) ["thing", "low", "high"]:=by
   dsimp only [L2.KOf]
   refine' L2.bx KX G ?a ?l ?c ?k fun _ _ _ _ _ _ us hl=>match us,hl with | [_,_,_],_=>rfl
   (case a=>k_is);(case l=>k_is);(case c=>k_is);(case k=>k_is)
  have T_is_row:L2.Known (L2.KOf KX) mg "is_row" (K40.top 3) ["thing", "least", "most"]:=by
   dsimp only [L2.KOf]
   refine' L2.bx KX G ?a ?l ?c ?k fun _ _ _ _ _ _ us hl=>match us,hl with | [_,_,_],_=>rfl
   (case a=>k_is);(case l=>k_is);(case c=>k_is);(case k=>k_is)
  have T_is_line:L2.Known (L2.KOf KX) mg "is_line" (K40.top 5) ["thing", "many"]:=by
   dsimp only [L2.KOf]
   refine' L2.bx KX G ?a ?l ?c ?k fun _ _ _ _ _ _ us hl=>match us,hl with | [_,_],_=>rfl
   (case a=>k_is);(case l=>k_is);(case c=>k_is);(case k=>k_is)
  have T_are_joined:L2.Known (L2.KOf KX) mg "are_joined" (K40.top 6) ["many", "lines"]:=by
   dsimp only [L2.KOf]
   refine' L2.bx KX G ?a ?l ?c ?k fun _ _ _ _ _ _ us hl=>match us,hl with | [_,_],_=>rfl
   (case a=>k_is);(case l=>k_is);(case c=>k_is);(case k=>k_is)
  have T_is_net:L2.Known (L2.KOf KX) mg "is_net" (K40.top 7) ["thing"]:=by
   dsimp only [L2.KOf]
   refine' L2.bx KX G ?a ?l ?c ?k fun _ _ _ _ _ _ us hl=>match us,hl with | [_],_=>rfl
   (case a=>k_is);(case l=>k_is);(case c=>k_is);(case k=>k_is)
  have T_is_piece:L2.Known (L2.KOf KX) mg "is_piece" (K40.top 9) ["thing"]:=by
   dsimp only [L2.KOf]
   refine' L2.bx KX G ?a ?l ?c ?k fun _ _ _ _ _ _ us hl=>match us,hl with | [_],_=>rfl
   (case a=>k_is);(case l=>k_is);(case c=>k_is);(case k=>k_is)
  have T_are_pieces:L2.Known (L2.KOf KX) mg "are_pieces" (K40.top 10) ["thing"]:=by
   dsimp only [L2.KOf]
   refine' L2.bx KX G ?a ?l ?c ?k fun _ _ _ _ _ _ us hl=>match us,hl with | [_],_=>rfl
   (case a=>k_is);(case l=>k_is);(case c=>k_is);(case k=>k_is)
  have T_is_work:L2.Known (L2.KOf KX) mg "is_work" (K40.top 11) ["thing", "many"]:=by
   dsimp only [L2.KOf]
   refine' L2.bx KX G ?a ?l ?c ?k fun _ _ _ _ _ _ us hl=>match us,hl with | [_,_],_=>rfl
   (case a=>k_is);(case l=>k_is);(case c=>k_is);(case k=>k_is)
  have T_is_store:L2.Known (L2.KOf KX) mg "is_store" (K40.top 12) ["thing", "many"]:=by
   dsimp only [L2.KOf]
   refine' L2.bx KX G ?a ?l ?c ?k fun _ _ _ _ _ _ us hl=>match us,hl with | [_,_],_=>rfl
   (case a=>k_is);(case l=>k_is);(case c=>k_is);(case k=>k_is)
  have T_is_want:L2.Known (L2.KOf KX) mg "is_want" (K40.top 13) ["thing", "many"]:=by
   dsimp only [L2.KOf]
   refine' L2.bx KX G ?a ?l ?c ?k fun _ _ _ _ _ _ us hl=>match us,hl with | [_,_],_=>rfl
   (case a=>k_is);(case l=>k_is);(case c=>k_is);(case k=>k_is)
  have T_are_wants:L2.Known (L2.KOf KX) mg "are_wants" (K40.top 14) ["thing", "many"]:=by
   dsimp only [L2.KOf]
   refine' L2.bx KX G ?a ?l ?c ?k fun _ _ _ _ _ _ us hl=>match us,hl with | [_,_],_=>rfl
   (case a=>k_is);(case l=>k_is);(case c=>k_is);(case k=>k_is)
  have T_is_house:L2.Known (L2.KOf KX) mg "is_house" (K40.top 15) ["thing"]:=by
   dsimp only [L2.KOf]
   refine' L2.bx KX G ?a ?l ?c ?k fun _ _ _ _ _ _ us hl=>match us,hl with | [_],_=>rfl
   (case a=>k_is);(case l=>k_is);(case c=>k_is);(case k=>k_is)
  have T__law_bag:L2.Known (L2.KOf KX) mg "_law_bag" (K40.top 17) ["_law_script", "_law_at"]:=by
   dsimp only [L2.KOf]
   refine' L2.bx KX G ?a ?l ?c ?k fun _ _ _ _ _ _ us hl=>match us,hl with | [_,_],_=>rfl
   (case a=>k_is);(case l=>k_is);(case c=>k_is);(case k=>k_is)
  have T__law_take:L2.Known (L2.KOf KX) mg "_law_take" (K40.top 18) ["_law_bag_here", "_law_many"]:=by
   dsimp only [L2.KOf]
   refine' L2.bx KX G ?a ?l ?c ?k fun _ _ _ _ _ _ us hl=>match us,hl with | [_,_],_=>rfl
   (case a=>k_is);(case l=>k_is);(case c=>k_is);(case k=>k_is)
  have T__law_line:L2.Known (L2.KOf KX) mg "_law_line" (K40.top 19) ["_law_bag_here", "_law_one", "_law_other"]:=by
   dsimp only [L2.KOf]
   refine' L2.bx KX G ?a ?l ?c ?k fun _ _ _ _ _ _ us hl=>match us,hl with | [_,_,_],_=>rfl
   (case a=>k_is);(case l=>k_is);(case c=>k_is);(case k=>k_is)
  have T__law_net:L2.Known (L2.KOf KX) mg "_law_net" (K40.top 20) ["_law_bag_here"]:=by
   dsimp only [L2.KOf]
   refine' L2.bx KX G ?a ?l ?c ?k fun _ _ _ _ _ _ us hl=>match us,hl with | [_],_=>rfl
   (case a=>k_is);(case l=>k_is);(case c=>k_is);(case k=>k_is)
  have T__law_work:L2.Known (L2.KOf KX) mg "_law_work" (K40.top 21) ["_law_bag_here", "_law_many"]:=by
   dsimp only [L2.KOf]
   refine' L2.bx KX G ?a ?l ?c ?k fun _ _ _ _ _ _ us hl=>match us,hl with | [_,_],_=>rfl
   (case a=>k_is);(case l=>k_is);(case c=>k_is);(case k=>k_is)
  have T__law_store:L2.Known (L2.KOf KX) mg "_law_store" (K40.top 22) ["_law_bag_here", "_law_many"]:=by
   dsimp only [L2.KOf]
   refine' L2.bx KX G ?a ?l ?c ?k fun _ _ _ _ _ _ us hl=>match us,hl with | [_,_],_=>rfl
   (case a=>k_is);(case l=>k_is);(case c=>k_is);(case k=>k_is)
  have T__law_wants:L2.Known (L2.KOf KX) mg "_law_wants" (K40.top 23) ["_law_bag_here", "_law_many"]:=by
   dsimp only [L2.KOf]
   refine' L2.bx KX G ?a ?l ?c ?k fun _ _ _ _ _ _ us hl=>match us,hl with | [_,_],_=>rfl
   (case a=>k_is);(case l=>k_is);(case c=>k_is);(case k=>k_is)
  have T__law_house:L2.Known (L2.KOf KX) mg "_law_house" (K40.top 24) ["_law_bag_here", "_law_works", "_law_hours"]:=by
   dsimp only [L2.KOf]
   refine' L2.bx KX G ?a ?l ?c ?k fun _ _ _ _ _ _ us hl=>match us,hl with | [_,_,_],_=>rfl
   (case a=>k_is);(case l=>k_is);(case c=>k_is);(case k=>k_is)
  have T__law_from:L2.Known (L2.KOf KX) mg "_law_from" (K40.top 25) ["_law_thing", "_law_least", "_law_most"]:=by
   dsimp only [L2.KOf]
   refine' L2.bx KX G ?a ?l ?c ?k fun _ _ _ _ _ _ us hl=>match us,hl with | [_,_,_],_=>rfl
   (case a=>k_is);(case l=>k_is);(case c=>k_is);(case k=>k_is)
  have T__law_row:L2.Known (L2.KOf KX) mg "_law_row" (K40.top 26) ["_law_thing", "_law_least", "_law_most"]:=by
   dsimp only [L2.KOf]
   refine' L2.bx KX G ?a ?l ?c ?k fun _ _ _ _ _ _ us hl=>match us,hl with | [_,_,_],_=>rfl
   (case a=>k_is);(case l=>k_is);(case c=>k_is);(case k=>k_is)
  have T__law_is_line:L2.Known (L2.KOf KX) mg "_law_is_line" (K40.top 27) ["_law_thing", "_law_many"]:=by
   dsimp only [L2.KOf]
   refine' L2.bx KX G ?a ?l ?c ?k fun _ _ _ _ _ _ us hl=>match us,hl with | [_,_],_=>rfl
   (case a=>k_is);(case l=>k_is);(case c=>k_is);(case k=>k_is)
  have T__law_is_net:L2.Known (L2.KOf KX) mg "_law_is_net" (K40.top 28) ["_law_thing"]:=by
   dsimp only [L2.KOf]
   refine' L2.bx KX G ?a ?l ?c ?k fun _ _ _ _ _ _ us hl=>match us,hl with | [_],_=>rfl
   (case a=>k_is);(case l=>k_is);(case c=>k_is);(case k=>k_is)
  have T__law_is_piece:L2.Known (L2.KOf KX) mg "_law_is_piece" (K40.top 29) ["_law_thing"]:=by
   dsimp only [L2.KOf]
   refine' L2.bx KX G ?a ?l ?c ?k fun _ _ _ _ _ _ us hl=>match us,hl with | [_],_=>rfl
   (case a=>k_is);(case l=>k_is);(case c=>k_is);(case k=>k_is)
  have T__law_is_work:L2.Known (L2.KOf KX) mg "_law_is_work" (K40.top 30) ["_law_thing", "_law_many"]:=by
   dsimp only [L2.KOf]
   refine' L2.bx KX G ?a ?l ?c ?k fun _ _ _ _ _ _ us hl=>match us,hl with | [_,_],_=>rfl
   (case a=>k_is);(case l=>k_is);(case c=>k_is);(case k=>k_is)
  have T__law_is_store:L2.Known (L2.KOf KX) mg "_law_is_store" (K40.top 31) ["_law_thing", "_law_many"]:=by
   dsimp only [L2.KOf]
   refine' L2.bx KX G ?a ?l ?c ?k fun _ _ _ _ _ _ us hl=>match us,hl with | [_,_],_=>rfl
   (case a=>k_is);(case l=>k_is);(case c=>k_is);(case k=>k_is)
  have T__law_is_want:L2.Known (L2.KOf KX) mg "_law_is_want" (K40.top 32) ["_law_thing", "_law_many"]:=by
   dsimp only [L2.KOf]
   refine' L2.bx KX G ?a ?l ?c ?k fun _ _ _ _ _ _ us hl=>match us,hl with | [_,_],_=>rfl
   (case a=>k_is);(case l=>k_is);(case c=>k_is);(case k=>k_is)
  have T__law_is_house:L2.Known (L2.KOf KX) mg "_law_is_house" (K40.top 33) ["_law_thing"]:=by
   dsimp only [L2.KOf]
   refine' L2.bx KX G ?a ?l ?c ?k fun _ _ _ _ _ _ us hl=>match us,hl with | [_],_=>rfl
   (case a=>k_is);(case l=>k_is);(case c=>k_is);(case k=>k_is)
  have T__law_odd:L2.Known (L2.KOf KX) mg "_law_odd" (K40.top 34) ["_law_bag_here", "_law_thing"]:=by
   dsimp only [L2.KOf]
   refine' L2.bx KX G ?a ?l ?c ?k fun _ _ _ _ _ _ us hl=>match us,hl with | [_,_],_=>rfl
   (case a=>k_is);(case l=>k_is);(case c=>k_is);(case k=>k_is)
  have T__law_spoilt:L2.Known (L2.KOf KX) mg "_law_spoilt" (K40.top 35) ["_law_bag_here", "_law_thing"]:=by
   dsimp only [L2.KOf]
   refine' L2.bx KX G ?a ?l ?c ?k fun _ _ _ _ _ _ us hl=>match us,hl with | [_,_],_=>rfl
   (case a=>k_is);(case l=>k_is);(case c=>k_is);(case k=>k_is)
  have n_abs:mg "abs" = none:=by
   refine' PySem.W.mg_none_of KX G ?z
   (case z=>k_is)
  have n_all:mg "all" = none:=by
   refine' PySem.W.mg_none_of KX G ?z
   (case z=>k_is)
  have n_bool:mg "bool" = none:=by
   refine' PySem.W.mg_none_of KX G ?z
   (case z=>k_is)
  have n_int:mg "int" = none:=by
   refine' PySem.W.mg_none_of KX G ?z
   (case z=>k_is)
  have n_isinstance:mg "isinstance" = none:=by
   refine' PySem.W.mg_none_of KX G ?z
   (case z=>k_is)
  have n_len:mg "len" = none:=by
   refine' PySem.W.mg_none_of KX G ?z
   (case z=>k_is)
  have n_list:mg "list" = none:=by
   refine' PySem.W.mg_none_of KX G ?z
   (case z=>k_is)
  have n_max:mg "max" = none:=by
   refine' PySem.W.mg_none_of KX G ?z
   (case z=>k_is)
  have n_min:mg "min" = none:=by
   refine' PySem.W.mg_none_of KX G ?z
   (case z=>k_is)
  have n_range:mg "range" = none:=by
   refine' PySem.W.mg_none_of KX G ?z
   (case z=>k_is)
  have n_set:mg "set" = none:=by
   refine' PySem.W.mg_none_of KX G ?z
   (case z=>k_is)
  have n_tuple:mg "tuple" = none:=by
   refine' PySem.W.mg_none_of KX G ?z
   (case z=>k_is)
  have TL:∃ fd:FuncData,L2.Fun (L2.KOf KX) "law" "law" (K40.top 36) fa fd ∧ ∀ (s:Shared) (u:Value),PySem.BindsTo s fd ⟨[u],[]⟩ [("_law_script",u)]:=by
   dsimp only [L2.KOf]
   refine' K40.Lj KX G hmg ?a ?l ?c ?k
   (case a=>k_is);(case l=>k_is);(case c=>k_is);(case k=>k_is)
  obtain ⟨fd,FL,bL⟩:=TL
  exact ⟨fd,bL,fun base _ _=>K40.Ho FL rfl T_is_whole_number T_is_within T_is_row T_is_line T_are_joined T_is_net T_is_piece T_are_pieces T_is_work T_is_store T_is_want T_are_wants T_is_house T__law_bag T__law_take T__law_line T__law_net T__law_work T__law_store T__law_wants T__law_house T__law_from T__law_row T__law_is_line T__law_is_net T__law_is_piece T__law_is_work T__law_is_store T__law_is_want T__law_is_house T__law_odd T__law_spoilt n_abs n_all n_bool n_int n_isinstance n_len n_list n_max n_min n_range n_set n_tuple base⟩
