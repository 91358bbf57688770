import PyProof.Rows.All
import Wide.All
import OpenK.AllK
import Wide.FinOn
import OpenK.KMore
import OpenK.KMake
import OpenK.KDescr
import OpenK.KOwn
import KE.KIsAll
import KE.KItem
import KE.KxBytes
import PyProof.EqAt
import PyProof.EqKinds
import PyProof.TupleCall
import PyProof.ListMulRoad
import PyProof.FactsAll.tuple
import PyProof.Rows.SeqMore
import PyProof.ReprRoads
import PyProof.ReprLen
import KE.KDictOf
import PyProof.CompUse
import PyProof.SumWalkG
import PyProof.ListRange
import PyProof.Rows.ListRangeD
import PyProof.ReprBulk
import PyProof.MinMaxWalk
import PyProof.WalkInts
import PyProof.SeqI3
import PyProof.Rows.CallKwBuiltin
import KE.KMinKey
import Lean
import PySem.Challenge.RW_elderhouse_k65_two_by_turns
set_option Elab.async false
set_option linter.all false
set_option maxRecDepth 100000
set_option maxHeartbeats 4000000
open PySem.Challenge renaming pw_elderhouse_k65_two_by_turns→pw0,rw_elderhouse_k65_two_by_turns→rw0
section
namespace L2
open PySem
def Z0Y (s:Stmt) (j:Nat):Stmt:=match s with
 | .ClassDef _ _ _ body _ _ _ _ _ _ _=>body.getD j (.Pass ⟨0,0,0,0⟩)
 | _=>.Pass ⟨0,0,0,0⟩
def Z1p (s:Stmt):Arguments:=match s with
 | .FunctionDef _ a _ _ _ _ _ _ _ _=>a
 | _=>{ posonlyargs:=[],args:=[],vararg:=none,kwonlyargs:=[],kw_defaults:=[],kwarg:=none,defaults:=[] }
def Z1b (s:Stmt):List Stmt:=match s with
 | .FunctionDef _ _ b _ _ _ _ _ _ _=>b
 | _=>[]
def Z0j (s:Stmt):Scope:=match s with
 | .FunctionDef _ _ _ _ _ _ sc _ _ _=>sc
 | _=>{ kind:=.function,names:=[],isGenerator:=false,isCoroutine:=false }
end L2
namespace K65
open PySem L2
def top (i:Nat):Stmt:=pw0.main.body.getD i (.Pass ⟨0,0,0,0⟩)
abbrev Z3a:Stmt:=top 3
abbrev Z2c:Stmt:=top 4
abbrev Z3z:Stmt:=top 5
abbrev Z3u:Stmt:=top 8
abbrev Z2W:Stmt:=top 9
abbrev Z2T:Stmt:=top 10
abbrev Z3U:Stmt:=top 11
abbrev Z2b:Stmt:=top 12
abbrev Z2H:Stmt:=top 18
abbrev Z1R:Stmt:=top 20
abbrev Z2n:Stmt:=top 21
abbrev Z2e:Stmt:=top 22
abbrev Z2G:Stmt:=top 23
abbrev Z2E:Stmt:=top 24
abbrev Z2I:Stmt:=top 25
abbrev Z2f:Stmt:=top 26
abbrev Z1V:Stmt:=top 27
abbrev Z1T:Stmt:=top 28
abbrev Z1j:Stmt:=top 29
abbrev Z1k:Stmt:=top 30
abbrev Z2q:Stmt:=top 31
abbrev Z2s:Stmt:=top 32
abbrev Z2v:Stmt:=top 33
abbrev Z2o:Stmt:=top 34
abbrev Z2F:Stmt:=top 35
abbrev Z1G:Stmt:=top 36
abbrev Z2w:Stmt:=top 37
abbrev Z2m:Stmt:=top 38
abbrev Z1S:Stmt:=top 39
abbrev J0b:Stmt:=top 40
abbrev Z1o:Stmt:=Z0Y (top 15) 0
abbrev Z1W:Stmt:=Z0Y (top 15) 1
abbrev Z2p:Stmt:=Z0Y (top 15) 2
abbrev Z2g:Stmt:=Z0Y (top 15) 3
abbrev Z0J:Stmt:=Z0Y (top 17) 0
abbrev Z1u:Stmt:=Z0Y (top 17) 1
abbrev Z1v:Stmt:=Z0Y (top 17) 2
abbrev Z1t:Stmt:=Z0Y (top 17) 3
abbrev Z1H:Stmt:=Z0Y (top 17) 4
abbrev Z1C:Stmt:=Z0Y (top 17) 5
abbrev Z1Q:Stmt:=Z0Y (top 17) 6
abbrev Z1f:Stmt:=Z0Y (top 17) 7
abbrev Z1P:Stmt:=Z0Y (top 17) 8
abbrev Z1s:Stmt:=Z0Y (top 17) 9
abbrev Z1U:Stmt:=Z0Y (top 17) 10
abbrev Z1e:Stmt:=Z0Y (top 17) 11
abbrev Z0W:Stmt:=Z0Y (top 17) 12
abbrev Z1L:Stmt:=Z0Y (top 17) 13
abbrev Z1m:Stmt:=Z0Y (top 17) 14
abbrev Z0X:Stmt:=Z0Y (top 17) 15
abbrev Z2i:Stmt:=Z0Y (top 17) 16
noncomputable def rv:W.RowW:=W.OpenRow.toRowW (W.OpenLaw.row rw0)
noncomputable def qv:Program:={ pw0 with main:={ pw0.main with body:=[top 1,top 2,top 3,top 4,top 5,top 8,top 9,top 10,top 11,top 12,top 14,top 15,top 17,top 18,top 20,top 21,top 22,top 23,top 24,top 25,top 26,top 27,top 28,top 29,top 30,top 31,top 32,top 33,top 34,top 35,top 36,top 37,top 38,top 39,top 40] } }
noncomputable def cO (x y:Str) (n:Nat) (l a b:Int) (r:Nat) (d:Nat):Obj:=⟨.type "code",none,.fields #[.str x n,.str y (n+1),.str "/claim/cut.py" (n+2),.int l 0,.int a 0,.int 0 0,.int 0 0,.int b 0,.ref r,.bool true,.int 181 0,.ref (r+1),.none,.ref (r+2),.ref (r+3),.ref (r+4),.int d 0,.int l 0,.str "/claim/cut.py" (d+1)],#[]⟩
noncomputable def fU (x y:Str) (s:Stmt) (m:Str) (t c:Nat):Obj:=⟨.type "function",none,.func (W.fnOf x y (L2.Z1p s) (L2.Z1b s) (L2.Z0j s) .none .none .none (.str m t) none (.ref c) .none),#[]⟩
noncomputable def eT:Obj:=⟨.type "tuple",none,.seq #[] 0,#[]⟩
noncomputable def kE (P:PySem.Params) (x:Str) (t:Nat) (v:Value):DictEntry:=⟨PyData.keyHash P x,.str x t,v⟩
noncomputable def KK (P:PySem.Params):W.Frag:=
(nat_lit 2,Function.const (("a":Str)≠"b") (⟨.none,none,(.dict #[] 0),#[]⟩:Obj) (by decide)) ::
(nat_lit 3,⟨(.type "dict"),none,(.dict #[kE P "__name__" 165 (.str "law_elderhouse_k65_two_by_turns" 554),kE P "__doc__" 166 .none,kE P "__package__" 167 .none,kE P "__loader__" 168 (.builtin "__main__.__loader__#opaque"),kE P "__spec__" 169 .none,kE P "__annotations__" 170 (.ref 6),kE P "__builtins__" 171 (.ref 4),kE P "__file__" 173 (.str "/claim/cut.py" 172),kE P "__cached__" 174 .none,⟨PyData.keyHash P "GREATEST",.str "GREATEST" 190,.int 1000000000000000 189⟩,⟨PyData.keyHash P "MOST_WITHIN",.str "MOST_WITHIN" 192,.int 40 191⟩,kE P "two_told" 201 (.ref 21),kE P "number_told" 210 (.ref 28),kE P "bounded" 217 (.ref 35),kE P "ROW_SIGNS" 238 (.ref 36),kE P "entered" 248 (.ref 43),kE P "own_done" 264 (.ref 50),kE P "two_done" 274 (.ref 57),kE P "behind" 287 (.ref 64),kE P "field_value" 298 (.ref 71),⟨PyData.keyHash P "MOST_PAIRS",.str "MOST_PAIRS" 302,.int 2 301⟩,kE P "Places" 354 (.ref 107),kE P "Machine" 544 (.ref 239),kE P "uppermost" 553 (.ref 250),kE P "_law_cell_at" 563 (.ref 257),kE P "_law_mixed" 572 (.ref 264),kE P "_law_number" 579 (.ref 271),kE P "_law_made" 590 (.ref 278),kE P "_law_push" 596 (.ref 283),kE P "_law_want" 609 (.ref 290),kE P "_law_branch" 621 (.ref 297),kE P "_law_slotted" 627 (.ref 302),kE P "_law_calling" 641 (.ref 309),kE P "_law_inner_thing" 647 (.ref 314),kE P "_law_about_thing" 657 (.ref 321),kE P "_law_piece" 668 (.ref 328),kE P "_law_block" 681 (.ref 335),kE P "_law_world" 687 (.ref 340),kE P "_law_asked" 695 (.ref 347),kE P "_law_seen" 701 (.ref 352),kE P "_law_made_one" 710 (.ref 359),kE P "_law_alone" 721 (.ref 366),kE P "_law_right" 732 (.ref 373),kE P "_law_gone_on" 739 (.ref 380),kE P "law" 745 (.ref 385)] 45),#[]⟩) ::
(nat_lit 15,eT) ::
(nat_lit 17,⟨.type "tuple",none,.seq #[.str "sign" 196,.str "a" 197,.str "b" 198] 0,#[]⟩) ::
(nat_lit 18,eT) ::
(nat_lit 20,cO "two_told" "two_told" 193 4 3 3 15 199) ::
(nat_lit 21,fU "two_told" "two_told" Z3a "elderhouse.numbers" 187 20) ::
(nat_lit 22,eT) ::
(nat_lit 24,⟨.type "tuple",none,.seq #[.str "sign" 205,.str "a" 206,.str "b" 207] 0,#[]⟩) ::
(nat_lit 25,eT) ::
(nat_lit 27,cO "number_told" "number_told" 202 12 3 3 22 208) ::
(nat_lit 28,fU "number_told" "number_told" Z2c "elderhouse.numbers" 187 27) ::
(nat_lit 29,eT) ::
(nat_lit 31,⟨.type "tuple",none,.seq #[.str "number" 214] 0,#[]⟩) ::
(nat_lit 32,eT) ::
(nat_lit 34,cO "bounded" "bounded" 211 20 1 3 29 215) ::
(nat_lit 35,fU "bounded" "bounded" Z3z "elderhouse.numbers" 187 34) ::
(nat_lit 36,⟨.type "dict",none,.dict #[kE P "add" 220 (.str "+" 221),kE P "sub" 222 (.str "-" 223),kE P "mul" 224 (.str "*" 225),kE P "div" 226 (.str "/" 227),kE P "less" 228 (.str "<" 229),kE P "same" 230 (.str "=" 231)] 6,#[]⟩) ::
(nat_lit 37,eT) ::
(nat_lit 39,⟨.type "tuple",none,.seq #[.str "block" 242,.str "number" 243,.str "values" 244,.str "bound" 245] 0,#[]⟩) ::
(nat_lit 40,eT) ::
(nat_lit 42,cO "entered" "entered" 239 26 3 3 37 246) ::
(nat_lit 43,fU "entered" "entered" Z3u "elderhouse.frames" 218 42) ::
(nat_lit 44,eT) ::
(nat_lit 46,⟨.type "tuple",none,.seq #[.str "row" 252,.str "frame" 253,.str "things" 254,.str "number" 255,.str "at" 256,.str "slots" 257,.str "stack" 258,.str "name" 259,.str "kept" 260,.str "over" 261] 0,#[]⟩) ::
(nat_lit 47,eT) ::
(nat_lit 49,cO "own_done" "own_done" 249 29 3 3 44 262) ::
(nat_lit 50,fU "own_done" "own_done" Z2W "elderhouse.frames" 218 49) ::
(nat_lit 51,eT) ::
(nat_lit 53,⟨.type "tuple",none,.seq #[.str "sign" 268,.str "frame" 269,.str "stack" 270,.str "told" 271] 0,#[]⟩) ::
(nat_lit 54,eT) ::
(nat_lit 56,cO "two_done" "two_done" 265 51 2 3 51 272) ::
(nat_lit 57,fU "two_done" "two_done" Z2T "elderhouse.frames" 218 56) ::
(nat_lit 58,eT) ::
(nat_lit 60,⟨.type "tuple",none,.seq #[.str "frame" 278,.str "many" 279,.str "value" 280,.str "number" 281,.str "at" 282,.str "slots" 283,.str "stack" 284] 0,#[]⟩) ::
(nat_lit 61,eT) ::
(nat_lit 63,cO "behind" "behind" 275 57 3 3 58 285) ::
(nat_lit 64,fU "behind" "behind" Z3U "elderhouse.frames" 218 63) ::
(nat_lit 65,eT) ::
(nat_lit 67,⟨.type "tuple",none,.seq #[.str "things" 291,.str "thing" 292,.str "place" 293,.str "house" 294,.str "inner" 295] 0,#[]⟩) ::
(nat_lit 68,eT) ::
(nat_lit 70,cO "field_value" "field_value" 288 60 3 3 65 296) ::
(nat_lit 71,fU "field_value" "field_value" Z2b "elderhouse.frames" 218 70) ::
(nat_lit 79,eT) ::
(nat_lit 81,⟨.type "tuple",none,.seq #[.str "self" 318] 0,#[]⟩) ::
(nat_lit 82,eT) ::
(nat_lit 84,cO "__init__" "Places.__init__" 315 67 1 3 79 319) ::
(nat_lit 85,fU "__init__" "Places.__init__" Z1o "elderhouse.places" 299 84) ::
(nat_lit 86,eT) ::
(nat_lit 89,⟨.type "code",none,.fields #[.str "asked" 322,.str "Places.asked" 323,.str "/claim/cut.py" 324,.int 70 0,.int 3 0,.int 0 0,.int 0 0,.int 3 0,.ref 86,.bool true,.int 181 0,.ref 87,.none,.none,.none,.ref 88,.int 325 0,.int 70 0,.str "/claim/cut.py" 326],#[]⟩) ::
(nat_lit 90,fU "asked" "Places.asked" Z1W "elderhouse.places" 299 89) ::
(nat_lit 91,eT) ::
(nat_lit 93,⟨.type "tuple",none,.seq #[.str "self" 331,.str "site" 332,.str "house" 333,.str "block" 334] 0,#[]⟩) ::
(nat_lit 94,eT) ::
(nat_lit 96,cO "put" "Places.put" 328 78 4 3 91 335) ::
(nat_lit 97,fU "put" "Places.put" Z2p "elderhouse.places" 299 96) ::
(nat_lit 98,eT) ::
(nat_lit 100,⟨.type "tuple",none,.seq #[.str "self" 341,.str "site" 342] 0,#[]⟩) ::
(nat_lit 101,eT) ::
(nat_lit 103,cO "told" "Places.told" 338 81 2 3 98 343) ::
(nat_lit 104,fU "told" "Places.told" Z2g "elderhouse.places" 299 103) ::
(nat_lit 105,⟨.type "tuple",none,.seq #[.str "by_site" 346] 0,#[]⟩) ::
(nat_lit 106,⟨(.type "dict"),none,(.dict #[kE P "__module__" 310 (.str "elderhouse.places" 299),⟨PyData.keyHash P "__firstlineno__",.str "__firstlineno__" 314,.int 65 313⟩,kE P "__init__" 321 (.ref 85),kE P "asked" 327 (.ref 90),kE P "put" 337 (.ref 97),kE P "told" 345 (.ref 104),kE P "__static_attributes__" 347 (.ref 105),kE P "__dict__" 349 (.ref 108),kE P "__weakref__" 351 (.ref 109),kE P "__doc__" 352 .none] 4),#[]⟩) ::
(nat_lit 107,⟨(.type "type"),none,(.cls ⟨"Places",[(.type "object")],[.ref 107,(.type "object")],106,"Places",true,[],[],false,none,false⟩),#[none,none,(some (.str "Places" 303)),(some (.str "Places" 311)),(some (.builtin "object.__new__")),(some (.bool true))]⟩) ::
(nat_lit 108,⟨.type "getset_descriptor",none,.fields #[.str "__dict__" 348,.ref 107,.builtin "function.__dict__",.builtin "function.__dict__#set"],#[]⟩) ::
(nat_lit 109,⟨.type "getset_descriptor",none,.fields #[.str "__weakref__" 350,.ref 107,.builtin "ExceptionGroup.__weakref__",.none],#[]⟩) ::
(nat_lit 119,⟨.type "tuple",none,.seq #[.int 100 369,.bool true] 0,#[]⟩) ::
(nat_lit 120,eT) ::
(nat_lit 123,⟨.type "code",none,.fields #[.str "__init__" 370,.str "Machine.__init__" 371,.str "/claim/cut.py" 372,.int 86 0,.int 6 0,.int 0 0,.int 0 0,.int 3 0,.ref 120,.bool true,.int 181 0,.ref 121,.none,.none,.none,.ref 122,.int 373 0,.int 86 0,.str "/claim/cut.py" 374],#[]⟩) ::
(nat_lit 124,⟨(.type "function"),none,(.func (W.fnOf "__init__" "Machine.__init__" (Z1p Z0J) (Z1b Z0J) (Z0j Z0J) (.ref 119) .none .none (.str "elderhouse.machine" 355) none (.ref 123) .none)),#[]⟩) ::
(nat_lit 125,eT) ::
(nat_lit 127,⟨.type "tuple",none,.seq #[.str "self" 379] 0,#[]⟩) ::
(nat_lit 128,eT) ::
(nat_lit 130,cO "frames" "Machine.frames" 376 100 1 3 125 380) ::
(nat_lit 131,fU "frames" "Machine.frames" Z1u "elderhouse.machine" 355 130) ::
(nat_lit 132,eT) ::
(nat_lit 134,⟨.type "tuple",none,.seq #[.str "self" 386] 0,#[]⟩) ::
(nat_lit 135,eT) ::
(nat_lit 137,cO "things" "Machine.things" 383 103 1 3 132 387) ::
(nat_lit 138,fU "things" "Machine.things" Z1v "elderhouse.machine" 355 137) ::
(nat_lit 139,eT) ::
(nat_lit 141,⟨.type "tuple",none,.seq #[.str "self" 393] 0,#[]⟩) ::
(nat_lit 142,eT) ::
(nat_lit 144,cO "answer" "Machine.answer" 390 106 1 3 139 394) ::
(nat_lit 145,fU "answer" "Machine.answer" Z1t "elderhouse.machine" 355 144) ::
(nat_lit 146,eT) ::
(nat_lit 148,⟨.type "tuple",none,.seq #[.str "self" 400] 0,#[]⟩) ::
(nat_lit 149,eT) ::
(nat_lit 151,cO "calls" "Machine.calls" 397 109 1 3 146 401) ::
(nat_lit 152,fU "calls" "Machine.calls" Z1H "elderhouse.machine" 355 151) ::
(nat_lit 153,eT) ::
(nat_lit 155,⟨.type "tuple",none,.seq #[.str "self" 407] 0,#[]⟩) ::
(nat_lit 156,eT) ::
(nat_lit 158,cO "looks" "Machine.looks" 404 112 1 3 153 408) ::
(nat_lit 159,fU "looks" "Machine.looks" Z1C "elderhouse.machine" 355 158) ::
(nat_lit 160,eT) ::
(nat_lit 162,⟨.type "tuple",none,.seq #[.str "self" 414] 0,#[]⟩) ::
(nat_lit 163,eT) ::
(nat_lit 165,cO "hits" "Machine.hits" 411 115 1 3 160 415) ::
(nat_lit 166,fU "hits" "Machine.hits" Z1Q "elderhouse.machine" 355 165) ::
(nat_lit 167,eT) ::
(nat_lit 169,⟨.type "tuple",none,.seq #[.str "self" 421] 0,#[]⟩) ::
(nat_lit 170,eT) ::
(nat_lit 172,cO "rows_done" "Machine.rows_done" 418 118 1 3 167 422) ::
(nat_lit 173,fU "rows_done" "Machine.rows_done" Z1f "elderhouse.machine" 355 172) ::
(nat_lit 174,eT) ::
(nat_lit 176,⟨.type "tuple",none,.seq #[.str "self" 428,.str "frame" 429,.str "row" 430] 0,#[]⟩) ::
(nat_lit 177,eT) ::
(nat_lit 179,cO "step" "Machine.step" 425 121 1 3 174 431) ::
(nat_lit 180,fU "step" "Machine.step" Z1P "elderhouse.machine" 355 179) ::
(nat_lit 181,eT) ::
(nat_lit 183,⟨.type "tuple",none,.seq #[.str "self" 437,.str "row" 438,.str "frame" 439,.str "done" 440,.str "refusal" 441] 0,#[]⟩) ::
(nat_lit 184,eT) ::
(nat_lit 186,cO "do_own" "Machine.do_own" 434 141 3 3 181 442) ::
(nat_lit 187,fU "do_own" "Machine.do_own" Z1s "elderhouse.machine" 355 186) ::
(nat_lit 188,eT) ::
(nat_lit 190,⟨.type "tuple",none,.seq #[.str "self" 448,.str "house" 449,.str "many" 450,.str "frame" 451] 0,#[]⟩) ::
(nat_lit 191,eT) ::
(nat_lit 193,cO "make" "Machine.make" 445 147 4 3 188 452) ::
(nat_lit 194,fU "make" "Machine.make" Z1U "elderhouse.machine" 355 193) ::
(nat_lit 195,eT) ::
(nat_lit 197,⟨.type "tuple",none,.seq #[.str "self" 458,.str "place" 459,.str "frame" 460,.str "thing" 461,.str "value" 462,.str "house" 463,.str "inner" 464] 0,#[]⟩) ::
(nat_lit 198,eT) ::
(nat_lit 200,cO "set_field" "Machine.set_field" 455 151 3 3 195 465) ::
(nat_lit 201,fU "set_field" "Machine.set_field" Z1e "elderhouse.machine" 355 200) ::
(nat_lit 202,eT) ::
(nat_lit 204,⟨.type "tuple",none,.seq #[.str "self" 471,.str "site" 472,.str "word" 473,.str "many" 474,.str "frame" 475,.str "house" 476,.str "known" 477,.str "block" 478] 0,#[]⟩) ::
(nat_lit 205,eT) ::
(nat_lit 207,cO "found_block" "Machine.found_block" 468 157 5 3 202 479) ::
(nat_lit 208,fU "found_block" "Machine.found_block" Z0W "elderhouse.machine" 355 207) ::
(nat_lit 209,eT) ::
(nat_lit 211,⟨.type "tuple",none,.seq #[.str "self" 485,.str "block" 486,.str "many" 487,.str "frame" 488,.str "number" 489,.str "at" 490,.str "slots" 491,.str "stack" 492] 0,#[]⟩) ::
(nat_lit 212,eT) ::
(nat_lit 214,cO "enter" "Machine.enter" 482 170 4 3 209 493) ::
(nat_lit 215,fU "enter" "Machine.enter" Z1L "elderhouse.machine" 355 214) ::
(nat_lit 216,eT) ::
(nat_lit 218,⟨.type "tuple",none,.seq #[.str "self" 499,.str "frame" 500,.str "value" 501,.str "number" 502,.str "at" 503,.str "slots" 504,.str "stack" 505] 0,#[]⟩) ::
(nat_lit 219,eT) ::
(nat_lit 221,cO "go_back" "Machine.go_back" 496 182 2 3 216 506) ::
(nat_lit 222,fU "go_back" "Machine.go_back" Z1m "elderhouse.machine" 355 221) ::
(nat_lit 223,eT) ::
(nat_lit 225,⟨.type "tuple",none,.seq #[.str "self" 512,.str "value" 513] 0,#[]⟩) ::
(nat_lit 226,eT) ::
(nat_lit 228,cO "told_answer" "Machine.told_answer" 509 191 2 3 223 514) ::
(nat_lit 229,fU "told_answer" "Machine.told_answer" Z0X "elderhouse.machine" 355 228) ::
(nat_lit 230,eT) ::
(nat_lit 232,⟨.type "tuple",none,.seq #[.str "self" 520,.str "told" 521] 0,#[]⟩) ::
(nat_lit 233,eT) ::
(nat_lit 235,cO "end" "Machine.end" 517 196 2 3 230 522) ::
(nat_lit 236,fU "end" "Machine.end" Z2i "elderhouse.machine" 355 235) ::
(nat_lit 237,⟨.type "tuple",none,.seq #[.str "blocks" 525,.str "call_count" 526,.str "ended" 527,.str "hit_count" 528,.str "house_tables" 529,.str "look_count" 530,.str "made" 531,.str "most" 532,.str "places" 533,.str "remembers" 534,.str "row_count" 535,.str "stacked" 536] 0,#[]⟩) ::
(nat_lit 238,⟨(.type "dict"),none,(.dict #[kE P "__module__" 364 (.str "elderhouse.machine" 355),⟨PyData.keyHash P "__firstlineno__",.str "__firstlineno__" 368,.int 84 367⟩,kE P "__init__" 375 (.ref 124),kE P "frames" 382 (.ref 131),kE P "things" 389 (.ref 138),kE P "answer" 396 (.ref 145),kE P "calls" 403 (.ref 152),kE P "looks" 410 (.ref 159),kE P "hits" 417 (.ref 166),kE P "rows_done" 424 (.ref 173),kE P "step" 433 (.ref 180),kE P "do_own" 444 (.ref 187),kE P "make" 454 (.ref 194),kE P "set_field" 467 (.ref 201),kE P "found_block" 481 (.ref 208),kE P "enter" 495 (.ref 215),kE P "go_back" 508 (.ref 222),kE P "told_answer" 516 (.ref 229),kE P "end" 524 (.ref 236),kE P "__static_attributes__" 537 (.ref 237),kE P "__dict__" 539 (.ref 240),kE P "__weakref__" 541 (.ref 241),kE P "__doc__" 542 .none] 4),#[]⟩) ::
(nat_lit 239,⟨(.type "type"),none,(.cls ⟨"Machine",[(.type "object")],[.ref 239,(.type "object")],238,"Machine",true,[],[],false,none,false⟩),#[none,none,(some (.str "Machine" 357)),(some (.str "Machine" 365)),(some (.builtin "object.__new__")),(some (.bool true))]⟩) ::
(nat_lit 240,⟨.type "getset_descriptor",none,.fields #[.str "__dict__" 538,.ref 239,.builtin "function.__dict__",.builtin "function.__dict__#set"],#[]⟩) ::
(nat_lit 241,⟨.type "getset_descriptor",none,.fields #[.str "__weakref__" 540,.ref 239,.builtin "ExceptionGroup.__weakref__",.none],#[]⟩) ::
(nat_lit 244,eT) ::
(nat_lit 246,⟨.type "tuple",none,.seq #[.str "frame" 548,.str "many" 549,.str "stack" 550] 0,#[]⟩) ::
(nat_lit 247,eT) ::
(nat_lit 249,cO "uppermost" "uppermost" 545 199 2 3 244 551) ::
(nat_lit 250,fU "uppermost" "uppermost" Z2H "elderhouse.machine" 355 249) ::
(nat_lit 251,eT) ::
(nat_lit 253,⟨.type "tuple",none,.seq #[.str "_law_script" 559,.str "_law_k" 560] 0,#[]⟩) ::
(nat_lit 254,eT) ::
(nat_lit 256,cO "_law_cell_at" "_law_cell_at" 556 203 2 3 251 561) ::
(nat_lit 257,fU "_law_cell_at" "_law_cell_at" Z1R "law_elderhouse_k65_two_by_turns" 554 256) ::
(nat_lit 258,eT) ::
(nat_lit 260,⟨.type "tuple",none,.seq #[.str "_law_cell" 567,.str "_law_k" 568,.str "_law_number_here" 569] 0,#[]⟩) ::
(nat_lit 261,eT) ::
(nat_lit 263,cO "_law_mixed" "_law_mixed" 564 207 2 3 258 570) ::
(nat_lit 264,fU "_law_mixed" "_law_mixed" Z2n "law_elderhouse_k65_two_by_turns" 554 263) ::
(nat_lit 265,eT) ::
(nat_lit 267,⟨.type "tuple",none,.seq #[.str "_law_cell" 576] 0,#[]⟩) ::
(nat_lit 268,eT) ::
(nat_lit 270,cO "_law_number" "_law_number" 573 210 1 3 265 577) ::
(nat_lit 271,fU "_law_number" "_law_number" Z2e "law_elderhouse_k65_two_by_turns" 554 270) ::
(nat_lit 272,eT) ::
(nat_lit 274,⟨.type "tuple",none,.seq #[.str "_law_world_here" 583,.str "_law_house" 584,.str "_law_cell" 585,.str "_law_rows" 586,.str "_law_k" 587] 0,#[]⟩) ::
(nat_lit 275,eT) ::
(nat_lit 277,cO "_law_made" "_law_made" 580 216 3 3 272 588) ::
(nat_lit 278,fU "_law_made" "_law_made" Z2G "law_elderhouse_k65_two_by_turns" 554 277) ::
(nat_lit 279,eT) ::
(nat_lit 282,⟨.type "code",none,.fields #[.str "_law_push" 591,.str "_law_push" 592,.str "/claim/cut.py" 593,.int 224 0,.int 4 0,.int 0 0,.int 0 0,.int 3 0,.ref 279,.bool true,.int 181 0,.ref 280,.none,.none,.none,.ref 281,.int 594 0,.int 224 0,.str "/claim/cut.py" 595],#[]⟩) ::
(nat_lit 283,fU "_law_push" "_law_push" Z2E "law_elderhouse_k65_two_by_turns" 554 282) ::
(nat_lit 284,eT) ::
(nat_lit 286,⟨.type "tuple",none,.seq #[.str "_law_world_here" 600,.str "_law_state" 601,.str "_law_kinds" 602,.str "_law_cell" 603,.str "_law_size" 604,.str "_law_rest" 605,.str "_law_k" 606] 0,#[]⟩) ::
(nat_lit 287,eT) ::
(nat_lit 289,cO "_law_want" "_law_want" 597 233 4 3 284 607) ::
(nat_lit 290,fU "_law_want" "_law_want" Z2I "law_elderhouse_k65_two_by_turns" 554 289) ::
(nat_lit 291,eT) ::
(nat_lit 293,⟨.type "tuple",none,.seq #[.str "_law_world_here" 613,.str "_law_state" 614,.str "_law_more" 615,.str "_law_kind" 616,.str "_law_one" 617,.str "_law_other" 618] 0,#[]⟩) ::
(nat_lit 294,eT) ::
(nat_lit 296,cO "_law_branch" "_law_branch" 610 241 3 3 291 619) ::
(nat_lit 297,fU "_law_branch" "_law_branch" Z2f "law_elderhouse_k65_two_by_turns" 554 296) ::
(nat_lit 298,eT) ::
(nat_lit 301,⟨.type "code",none,.fields #[.str "_law_slotted" 622,.str "_law_slotted" 623,.str "/claim/cut.py" 624,.int 252 0,.int 2 0,.int 0 0,.int 0 0,.int 3 0,.ref 298,.bool true,.int 181 0,.ref 299,.none,.none,.none,.ref 300,.int 625 0,.int 252 0,.str "/claim/cut.py" 626],#[]⟩) ::
(nat_lit 302,fU "_law_slotted" "_law_slotted" Z1V "law_elderhouse_k65_two_by_turns" 554 301) ::
(nat_lit 303,eT) ::
(nat_lit 305,⟨.type "tuple",none,.seq #[.str "_law_world_here" 631,.str "_law_state" 632,.str "_law_more" 633,.str "_law_is_straight" 634,.str "_law_block_here" 635,.str "_law_word" 636,.str "_law_params" 637,.str "_law_told" 638] 0,#[]⟩) ::
(nat_lit 306,eT) ::
(nat_lit 308,cO "_law_calling" "_law_calling" 628 263 3 3 303 639) ::
(nat_lit 309,fU "_law_calling" "_law_calling" Z1T "law_elderhouse_k65_two_by_turns" 554 308) ::
(nat_lit 310,eT) ::
(nat_lit 313,⟨.type "code",none,.fields #[.str "_law_inner_thing" 642,.str "_law_inner_thing" 643,.str "/claim/cut.py" 644,.int 275 0,.int 3 0,.int 0 0,.int 0 0,.int 3 0,.ref 310,.bool true,.int 181 0,.ref 311,.none,.none,.none,.ref 312,.int 645 0,.int 275 0,.str "/claim/cut.py" 646],#[]⟩) ::
(nat_lit 314,fU "_law_inner_thing" "_law_inner_thing" Z1j "law_elderhouse_k65_two_by_turns" 554 313) ::
(nat_lit 315,eT) ::
(nat_lit 317,⟨.type "tuple",none,.seq #[.str "_law_world_here" 651,.str "_law_state" 652,.str "_law_more" 653,.str "_law_place" 654] 0,#[]⟩) ::
(nat_lit 318,eT) ::
(nat_lit 320,cO "_law_about_thing" "_law_about_thing" 648 284 3 3 315 655) ::
(nat_lit 321,fU "_law_about_thing" "_law_about_thing" Z1k "law_elderhouse_k65_two_by_turns" 554 320) ::
(nat_lit 322,eT) ::
(nat_lit 324,⟨.type "tuple",none,.seq #[.str "_law_world_here" 661,.str "_law_state" 662,.str "_law_cell" 663,.str "_law_way" 664,.str "_law_more" 665] 0,#[]⟩) ::
(nat_lit 325,eT) ::
(nat_lit 327,cO "_law_piece" "_law_piece" 658 299 3 3 322 666) ::
(nat_lit 328,fU "_law_piece" "_law_piece" Z2q "law_elderhouse_k65_two_by_turns" 554 327) ::
(nat_lit 329,eT) ::
(nat_lit 331,⟨.type "tuple",none,.seq #[.str "_law_world_here" 672,.str "_law_params" 673,.str "_law_told" 674,.str "_law_cell" 675,.str "_law_many" 676,.str "_law_state" 677,.str "_law_k" 678] 0,#[]⟩) ::
(nat_lit 332,eT) ::
(nat_lit 334,cO "_law_block" "_law_block" 669 318 5 3 329 679) ::
(nat_lit 335,fU "_law_block" "_law_block" Z2s "law_elderhouse_k65_two_by_turns" 554 334) ::
(nat_lit 336,eT) ::
(nat_lit 339,⟨.type "code",none,.fields #[.str "_law_world" 682,.str "_law_world" 683,.str "/claim/cut.py" 684,.int 324 0,.int 1 0,.int 0 0,.int 0 0,.int 3 0,.ref 336,.bool true,.int 181 0,.ref 337,.none,.none,.none,.ref 338,.int 685 0,.int 324 0,.str "/claim/cut.py" 686],#[]⟩) ::
(nat_lit 340,fU "_law_world" "_law_world" Z2v "law_elderhouse_k65_two_by_turns" 554 339) ::
(nat_lit 341,eT) ::
(nat_lit 343,⟨.type "tuple",none,.seq #[.str "_law_machine" 691,.str "_law_k" 692] 0,#[]⟩) ::
(nat_lit 344,eT) ::
(nat_lit 346,cO "_law_asked" "_law_asked" 688 346 2 3 341 693) ::
(nat_lit 347,fU "_law_asked" "_law_asked" Z2o "law_elderhouse_k65_two_by_turns" 554 346) ::
(nat_lit 348,eT) ::
(nat_lit 351,⟨.type "code",none,.fields #[.str "_law_seen" 696,.str "_law_seen" 697,.str "/claim/cut.py" 698,.int 354 0,.int 2 0,.int 0 0,.int 0 0,.int 3 0,.ref 348,.bool true,.int 181 0,.ref 349,.none,.none,.none,.ref 350,.int 699 0,.int 354 0,.str "/claim/cut.py" 700],#[]⟩) ::
(nat_lit 352,fU "_law_seen" "_law_seen" Z2F "law_elderhouse_k65_two_by_turns" 554 351) ::
(nat_lit 353,eT) ::
(nat_lit 355,⟨.type "tuple",none,.seq #[.str "_law_world_here" 705,.str "_law_cell" 706,.str "_law_numbers" 707] 0,#[]⟩) ::
(nat_lit 356,eT) ::
(nat_lit 358,cO "_law_made_one" "_law_made_one" 702 360 3 3 353 708) ::
(nat_lit 359,fU "_law_made_one" "_law_made_one" Z1G "law_elderhouse_k65_two_by_turns" 554 358) ::
(nat_lit 360,eT) ::
(nat_lit 362,⟨.type "tuple",none,.seq #[.str "_law_world_here" 714,.str "_law_cell" 715,.str "_law_numbers" 716,.str "_law_machine" 717,.str "_law_told" 718] 0,#[]⟩) ::
(nat_lit 363,eT) ::
(nat_lit 365,cO "_law_alone" "_law_alone" 711 362 3 3 360 719) ::
(nat_lit 366,fU "_law_alone" "_law_alone" Z2w "law_elderhouse_k65_two_by_turns" 554 365) ::
(nat_lit 367,eT) ::
(nat_lit 369,⟨.type "tuple",none,.seq #[.str "_law_pair" 725,.str "_law_bits" 726,.str "_law_held" 727,.str "_law_found" 728,.str "_law_row" 729] 0,#[]⟩) ::
(nat_lit 370,eT) ::
(nat_lit 372,cO "_law_right" "_law_right" 722 368 3 3 367 730) ::
(nat_lit 373,fU "_law_right" "_law_right" Z2m "law_elderhouse_k65_two_by_turns" 554 372) ::
(nat_lit 374,eT) ::
(nat_lit 376,⟨.type "tuple",none,.seq #[.str "_law_pair" 736] 0,#[]⟩) ::
(nat_lit 377,eT) ::
(nat_lit 379,cO "_law_gone_on" "_law_gone_on" 733 376 1 3 374 737) ::
(nat_lit 380,fU "_law_gone_on" "_law_gone_on" Z1S "law_elderhouse_k65_two_by_turns" 554 379) ::
(nat_lit 381,eT) ::
(nat_lit 384,⟨.type "code",none,.fields #[.str "law" 740,.str "law" 741,.str "/claim/cut.py" 742,.int 381 0,.int 1 0,.int 0 0,.int 0 0,.int 3 0,.ref 381,.bool true,.int 181 0,.ref 382,.none,.none,.none,.ref 383,.int 743 0,.int 381 0,.str "/claim/cut.py" 744],#[]⟩) ::
(nat_lit 385,fU "law" "law" J0b "law_elderhouse_k65_two_by_turns" 554 384)::[]
noncomputable def KA:List Addr:=[2,3,15,17,18,20,21,22,24,25,27,28,29,31,32,34,35,36,37,39,40,42,43,44,46,47,49,50,51,53,54,56,57,58,60,61,63,64,65,67,68,70,71,79,81,82,84,85,86,89,90,91,93,94,96,97,98,100,101,103,104,105,106,107,108,109,119,120,123,124,125,127,128,130,131,132,134,135,137,138,139,141,142,144,145,146,148,149,151,152,153,155,156,158,159,160,162,163,165,166,167,169,170,172,173,174,176,177,179,180,181,183,184,186,187,188,190,191,193,194,195,197,198,200,201,202,204,205,207,208,209,211,212,214,215,216,218,219,221,222,223,225,226,228,229,230,232,233,235,236,237,238,239,240,241,244,246,247,249,250,251,253,254,256,257,258,260,261,263,264,265,267,268,270,271,272,274,275,277,278,279,282,283,284,286,287,289,290,291,293,294,296,297,298,301,302,303,305,306,308,309,310,313,314,315,317,318,320,321,322,324,325,327,328,329,331,332,334,335,336,339,340,341,343,344,346,347,348,351,352,353,355,356,358,359,360,362,363,365,366,367,369,370,372,373,374,376,377,379,380,381,384,385]
theorem ka_eq:∀ P,KA=(KK P).map (·.1):=fun _=>by kernel_rfl
theorem J2a {p q:Program} {loose:List Str} {Xt:Shared→Bool} {α:Type} {Yf:Shared→α} {Ya:World→α} {N:Nat} {H₀:Params→Heap} {gs₀:Array GenState} {d₀:Drawn} {k₀ m₀ M:Nat} {ann:Option Value}
  (op:∀ w:World,(W.fencedOpening treeTable p w N).map (fun s=>(s.heap,s.gens,s.drawn,s.toks))=some (H₀ w.params,gs₀,d₀,k₀))
  (sz:∀ w:World,((H₀ w.params).isNs mainGlobals&&gs₀.size == 0)=true∧(H₀ w.params).objs.size=m₀∧(H₀ w.params).nsMap mainGlobals "__annotations__"=ann) (le:M≤N)
  (ex:∀ (w:World) (os:OsState),∃ s,W.topRun treeTable p w m₀ ann M ⟨H₀ w.params,gs₀,d₀,k₀,os⟩ (W.topStub p)=some s∧(W.staticsOk (importedModules p.main.body) (H₀ w.params) s.heap&&W.namesBound p s.heap&&W.gensDone s&&W.laidKept (H₀ w.params) s.heap)=true∧W.openSeen q loose (importedModules p.main.body) Xt true s=W.openGood q loose∧Yf s=Ya w):W.LeftO p q loose Xt Yf Ya N:=by
 intro w
 obtain ⟨⟨hh,gg,dr,tk,os⟩,e1,e2⟩:=Option.map_eq_some_iff.mp (op w)
 simp only [Prod.mk.injEq] at e2
 obtain ⟨a1,a2,a3,a4⟩:=e2
 subst a1 a2 a3 a4
 obtain ⟨z1,z2,z3⟩:=sz w
 obtain ⟨s,hr,b1,b2,b3⟩:=ex w os
 have hr:=W.topRun_mono (N - M) _ _ _ _ hr
 rw [Nat.add_sub_of_le le] at hr
 have ht:W.topFrom treeTable p w N ⟨H₀ w.params,gg,dr,tk,os⟩=some s:=by
  unfold W.topFrom
  simp only [z1,z2,z3,hr,Option.bind_some,b1]
 unfold W.openEnds
 rw [e1,Option.bind_some,ht,Option.map_some,b2,b3]
theorem zz:(pw0.main.body.isEmpty == false)=true:=by k_qdec
noncomputable def eN (p:Program):Env:={ scope:=p.main.scope,locals:=mainNs,globals:=mainNs,cells:=[],code:=.ref 13,frame:=some 14 }
noncomputable def cN (p:Program):Code:=.body (W.behindTheImports p) (eN p)
def po:Pos:=⟨0,0,0,0⟩
def pf:Pos:=⟨381,0,402,87⟩
def an:Option Value:=some (.ref 6)
noncomputable def Y0 (w:World) (os:OsState):Shared:=⟨W.boot_heap w.params,Array.mk [],W.boot_drawn,W.boot_toks,os⟩
noncomputable def Sa (p:Program) (w:World) (os:OsState):Shared:=match W.topGo treeTable p w 11 an 12 (Y0 w os) (W.topStub p) with
 | some (s,_)=>s
 | none=>Y0 w os
def ofL:List Obj→Nat→W.BT→W.BT
 | [],_,t=>t
 | o::l,n,t=>ofL l (n+1) (t.ins n o)
noncomputable def TB (p:Program) (w:World) (os:OsState):W.SharedT:=⟨ofL (Sa p w os).heap.objs.toList 0 .nil,15,(Sa p w os).heap.life,(Sa p w os).gens,(Sa p w os).drawn,(Sa p w os).toks,os⟩
theorem r1 (w:World) (os:OsState):W.topGo treeTable pw0 w 11 an 12 (Y0 w os) (W.topStub pw0)=some (Sa pw0 w os,⟨denote treeTable (cN pw0),cN pw0,po,[W.topFrame po]⟩):=by
 kernel_rfl
theorem r2 (w:World) (os:OsState):W.segRun treeTable pw0 w 11 an 1 1 (Sa pw0 w os) (W.blockOf (W.behindTheImports pw0) (eN pw0) (cN pw0) po [W.topFrame po])=some (.next,Sa pw0 w os,cN pw0,po):=by
 kernel_rfl
theorem r3 (w:World) (os:OsState):(TB pw0 w os).abs=Sa pw0 w os:=by
 kernel_rfl
noncomputable def e0:Obj:=⟨.none,none,.fields #[],#[]⟩
noncomputable def et:Obj:=⟨.type "tuple",none,.seq #[] 0,#[]⟩
noncomputable def ky (P:Params) (x:Str) (t:Nat) (v:Value):DictEntry:=⟨PyData.keyHash P x,.str x t,v⟩
noncomputable def fz (x y:Str) (s:Stmt):Obj:=⟨.none,none,.func { name:=x,qualname:=y,params:=L2.Z1p s,body:=.stmts (L2.Z1b s),scope:=L2.Z0j s,globals:=0,closure:=[],defaults:=.none,kwdefaults:=.none },#[]⟩
noncomputable def bi (x:String) (v:Value):Obj:=⟨.type "builtin_function_or_method",none,.fields #[.builtin x,v],#[]⟩
noncomputable def fr (a b:Nat) (x:Str) (t:Nat):Obj:=⟨.type "frame",none,.plain,#[some (.ref a),some (.ref 3),some (.ref b),none,some (.str x t),none,some (.ref 0)]⟩
noncomputable def su (a:Nat):Obj:=⟨.type "super",none,.fields #[.ref a,.ref a,.ref a],#[]⟩
noncomputable def bo (P:Params) (i:Nat):Obj:=(W.boot_heap P).objs.toList.getD i e0
noncomputable def RR (P:Params):List (Addr×Obj):=[
(0,bo P 0),
(1,⟨(.type "dict"),none,(.dict #[ky P "builtins" 162 (.ref 4),ky P "__main__" 163 (.ref 5)] 2),#[]⟩),
(4,⟨(.type "module"),(some 0),.plain,#[]⟩),
(5,⟨(.type "module"),(some 3),.plain,#[]⟩),
(6,⟨(.type "dict"),none,(.dict #[] 0),#[]⟩),
(7,et),
(8,e0),
(9,⟨(.type "code"),none,(.fields #[.str "<module>" 176,.str "<module>" 177,.str "/claim/cut.py" 178,.int 1 0,.int 0 0,.int 0 0,.int 0 0,.int 0 0,.ref 7,.bool false,.int 175 0,.ref 8,.none,.none,.none,.none,.int 179 0,.int 1 0,.str "/claim/cut.py" 180]),#[]⟩),
(10,fr 9 3 "__main__" 164),
(11,et),
(12,⟨.none,none,(.fields #[.int 4 0,.int 0 0,.ref 20,.int 12 0,.int 0 0,.ref 27,.int 20 0,.int 0 0,.ref 34,.int 26 0,.int 0 0,.ref 42,.int 29 0,.int 0 0,.ref 49,.int 51 0,.int 0 0,.ref 56,.int 57 0,.int 0 0,.ref 63,.int 60 0,.int 0 0,.ref 70,.int 65 0,.int 0 0,.ref 77,.int 84 0,.int 0 0,.ref 117,.int 199 0,.int 0 0,.ref 249,.int 203 0,.int 0 0,.ref 256,.int 207 0,.int 0 0,.ref 263,.int 210 0,.int 0 0,.ref 270,.int 216 0,.int 0 0,.ref 277,.int 224 0,.int 0 0,.ref 282,.int 233 0,.int 0 0,.ref 289,.int 241 0,.int 0 0,.ref 296,.int 252 0,.int 0 0,.ref 301,.int 263 0,.int 0 0,.ref 308,.int 275 0,.int 0 0,.ref 313,.int 284 0,.int 0 0,.ref 320,.int 299 0,.int 0 0,.ref 327,.int 318 0,.int 0 0,.ref 334,.int 324 0,.int 0 0,.ref 339,.int 346 0,.int 0 0,.ref 346,.int 354 0,.int 0 0,.ref 351,.int 360 0,.int 0 0,.ref 358,.int 362 0,.int 0 0,.ref 365,.int 368 0,.int 0 0,.ref 372,.int 376 0,.int 0 0,.ref 379,.int 381 0,.int 0 0,.ref 384]),#[]⟩),
(13,⟨(.type "code"),none,(.fields #[.str "<module>" 182,.str "<module>" 183,.str "/claim/cut.py" 184,.int 1 0,.int 0 0,.int 0 0,.int 0 0,.int 0 0,.ref 11,.bool false,.int 181 0,.ref 12,.none,.none,.none,.none,.int 185 0,.int 1 0,.str "/claim/cut.py" 186]),#[]⟩),
(14,fr 13 3 "__main__" 164),
(16,e0),
(19,fz "two_told" "two_told" Z3a),
(23,e0),
(26,fz "number_told" "number_told" Z2c),
(30,e0),
(33,fz "bounded" "bounded" Z3z),
(38,e0),
(41,fz "entered" "entered" Z3u),
(45,e0),
(48,fz "own_done" "own_done" Z2W),
(52,e0),
(55,fz "two_done" "two_done" Z2T),
(59,e0),
(62,fz "behind" "behind" Z3U),
(66,e0),
(69,fz "field_value" "field_value" Z2b),
(72,et),
(73,bi "type.__prepare__" (.type "type")),
(74,⟨(.type "dict"),none,(.dict #[ky P "__module__" 310 (.str "elderhouse.places" 299),ky P "__qualname__" 312 (.str "Places" 311),⟨PyData.keyHash P "__firstlineno__",.str "__firstlineno__" 314,.int 65 313⟩,ky P "__init__" 321 (.ref 85),ky P "asked" 327 (.ref 90),ky P "put" 337 (.ref 97),ky P "told" 345 (.ref 104),ky P "__static_attributes__" 347 (.ref 105)] 8),#[]⟩),
(75,et),
(76,⟨.none,none,(.fields #[.int 67 0,.int 4 0,.ref 84,.int 70 0,.int 4 0,.ref 89,.int 78 0,.int 4 0,.ref 96,.int 81 0,.int 4 0,.ref 103]),#[]⟩),
(77,⟨(.type "code"),none,(.fields #[.str "Places" 305,.str "Places" 306,.str "/claim/cut.py" 307,.int 65 0,.int 0 0,.int 0 0,.int 0 0,.int 0 0,.ref 75,.bool false,.int 181 0,.ref 76,.none,.none,.none,.none,.int 308 0,.int 65 0,.str "/claim/cut.py" 309]),#[]⟩),
(78,fr 77 74 "elderhouse.places" 299),
(80,e0),
(83,fz "__init__" "Places.__init__" Z1o),
(87,e0),
(88,fz "asked" "Places.asked" Z1W),
(92,e0),
(95,fz "put" "Places.put" Z2p),
(99,e0),
(102,fz "told" "Places.told" Z2g),
(110,su 107),
(111,bi "object.__init_subclass__" (.ref 107)),
(112,et),
(113,bi "type.__prepare__" (.type "type")),
(114,⟨(.type "dict"),none,(.dict #[ky P "__module__" 364 (.str "elderhouse.machine" 355),ky P "__qualname__" 366 (.str "Machine" 365),⟨PyData.keyHash P "__firstlineno__",.str "__firstlineno__" 368,.int 84 367⟩,ky P "__init__" 375 (.ref 124),ky P "frames" 382 (.ref 131),ky P "things" 389 (.ref 138),ky P "answer" 396 (.ref 145),ky P "calls" 403 (.ref 152),ky P "looks" 410 (.ref 159),ky P "hits" 417 (.ref 166),ky P "rows_done" 424 (.ref 173),ky P "step" 433 (.ref 180),ky P "do_own" 444 (.ref 187),ky P "make" 454 (.ref 194),ky P "set_field" 467 (.ref 201),ky P "found_block" 481 (.ref 208),ky P "enter" 495 (.ref 215),ky P "go_back" 508 (.ref 222),ky P "told_answer" 516 (.ref 229),ky P "end" 524 (.ref 236),ky P "__static_attributes__" 537 (.ref 237)] 21),#[]⟩),
(115,et),
(116,⟨.none,none,(.fields #[.int 86 0,.int 4 0,.ref 123,.int 100 0,.int 4 0,.ref 130,.int 103 0,.int 4 0,.ref 137,.int 106 0,.int 4 0,.ref 144,.int 109 0,.int 4 0,.ref 151,.int 112 0,.int 4 0,.ref 158,.int 115 0,.int 4 0,.ref 165,.int 118 0,.int 4 0,.ref 172,.int 121 0,.int 4 0,.ref 179,.int 141 0,.int 4 0,.ref 186,.int 147 0,.int 4 0,.ref 193,.int 151 0,.int 4 0,.ref 200,.int 157 0,.int 4 0,.ref 207,.int 170 0,.int 4 0,.ref 214,.int 182 0,.int 4 0,.ref 221,.int 191 0,.int 4 0,.ref 228,.int 196 0,.int 4 0,.ref 235]),#[]⟩),
(117,⟨(.type "code"),none,(.fields #[.str "Machine" 359,.str "Machine" 360,.str "/claim/cut.py" 361,.int 84 0,.int 0 0,.int 0 0,.int 0 0,.int 0 0,.ref 115,.bool false,.int 181 0,.ref 116,.none,.none,.none,.none,.int 362 0,.int 84 0,.str "/claim/cut.py" 363]),#[]⟩),
(118,fr 117 114 "elderhouse.machine" 355),
(121,e0),
(122,fz "__init__" "Machine.__init__" Z0J),
(126,e0),
(129,fz "frames" "Machine.frames" Z1u),
(133,e0),
(136,fz "things" "Machine.things" Z1v),
(140,e0),
(143,fz "answer" "Machine.answer" Z1t),
(147,e0),
(150,fz "calls" "Machine.calls" Z1H),
(154,e0),
(157,fz "looks" "Machine.looks" Z1C),
(161,e0),
(164,fz "hits" "Machine.hits" Z1Q),
(168,e0),
(171,fz "rows_done" "Machine.rows_done" Z1f),
(175,e0),
(178,fz "step" "Machine.step" Z1P),
(182,e0),
(185,fz "do_own" "Machine.do_own" Z1s),
(189,e0),
(192,fz "make" "Machine.make" Z1U),
(196,e0),
(199,fz "set_field" "Machine.set_field" Z1e),
(203,e0),
(206,fz "found_block" "Machine.found_block" Z0W),
(210,e0),
(213,fz "enter" "Machine.enter" Z1L),
(217,e0),
(220,fz "go_back" "Machine.go_back" Z1m),
(224,e0),
(227,fz "told_answer" "Machine.told_answer" Z0X),
(231,e0),
(234,fz "end" "Machine.end" Z2i),
(242,su 239),
(243,bi "object.__init_subclass__" (.ref 239)),
(245,e0),
(248,fz "uppermost" "uppermost" Z2H),
(252,e0),
(255,fz "_law_cell_at" "_law_cell_at" Z1R),
(259,e0),
(262,fz "_law_mixed" "_law_mixed" Z2n),
(266,e0),
(269,fz "_law_number" "_law_number" Z2e),
(273,e0),
(276,fz "_law_made" "_law_made" Z2G),
(280,e0),
(281,fz "_law_push" "_law_push" Z2E),
(285,e0),
(288,fz "_law_want" "_law_want" Z2I),
(292,e0),
(295,fz "_law_branch" "_law_branch" Z2f),
(299,e0),
(300,fz "_law_slotted" "_law_slotted" Z1V),
(304,e0),
(307,fz "_law_calling" "_law_calling" Z1T),
(311,e0),
(312,fz "_law_inner_thing" "_law_inner_thing" Z1j),
(316,e0),
(319,fz "_law_about_thing" "_law_about_thing" Z1k),
(323,e0),
(326,fz "_law_piece" "_law_piece" Z2q),
(330,e0),
(333,fz "_law_block" "_law_block" Z2s),
(337,e0),
(338,fz "_law_world" "_law_world" Z2v),
(342,e0),
(345,fz "_law_asked" "_law_asked" Z2o),
(349,e0),
(350,fz "_law_seen" "_law_seen" Z2F),
(354,e0),
(357,fz "_law_made_one" "_law_made_one" Z1G),
(361,e0),
(364,fz "_law_alone" "_law_alone" Z2w),
(368,e0),
(371,fz "_law_right" "_law_right" Z2m),
(375,e0),
(378,fz "_law_gone_on" "_law_gone_on" Z1S),
(382,e0),
(383,fz "law" "law" J0b)]
def mrg:Nat→List (Addr×Obj)→List (Addr×Obj)→List Obj
 | 0,_,_=>[]
 | n+1,(a,x)::l,(b,y)::r=>match Nat.blt a b with
  | true=>x::mrg n l ((b,y)::r)
  | false=>y::mrg n ((a,x)::l) r
 | n+1,[],(_,y)::r=>y::mrg n [] r
 | n+1,(_,x)::l,[]=>x::mrg n l []
 | _+1,[],[]=>[]
noncomputable def TF (p:Program) (w:World) (os:OsState):W.SharedT:=⟨ofL (mrg 386 (RR w.params) (KK w.params)) 0 .nil,386,(Sa p w os).heap.life,Array.mk [],W.boot_drawn,746,os⟩
def sF (w:World) (b:Bool):World:={ w with params:={ w.params with followText:=fun x=>if x="special-get-raises" then b else w.params.followText x } }
theorem J5O (w:World):sF w (w.params.followText "special-get-raises")=w:=by
 have h:(fun x=>if x="special-get-raises" then w.params.followText "special-get-raises" else w.params.followText x)=w.params.followText:=by
  funext x
  split
  ·rename_i h; rw [h]
  ·rfl
 unfold sF
 rw [h]
theorem b0t (w:World) (os:OsState):W.segRunT treeTable pw0 (sF w true) 11 an 1 2184 (TB pw0 (sF w true) os) (W.piecesOf (W.behindTheImports pw0) (eN pw0) (cN pw0) po [W.topFrame po])=some (.next,(TF pw0 (sF w true) os),cN pw0,pf):=by
 unfold TF TB Sa
 rw [W.Fast.te10110043849684766642,W.Fast.te15667345088766844465,W.Fast.te12614273761327185673]
 kernel_rfl
theorem b0f (w:World) (os:OsState):W.segRunT treeTable pw0 (sF w false) 11 an 1 2184 (TB pw0 (sF w false) os) (W.piecesOf (W.behindTheImports pw0) (eN pw0) (cN pw0) po [W.topFrame po])=some (.next,(TF pw0 (sF w false) os),cN pw0,pf):=by
 unfold TF TB Sa
 rw [W.Fast.te10110043849684766642,W.Fast.te15667345088766844465,W.Fast.te12614273761327185673]
 kernel_rfl
theorem b0 (w:World) (os:OsState):W.segRunT treeTable pw0 w 11 an 1 2184 (TB pw0 w os) (W.piecesOf (W.behindTheImports pw0) (eN pw0) (cN pw0) po [W.topFrame po])=some (.next,(TF pw0 w os),cN pw0,pf):=by
 have h:∀ b,W.segRunT treeTable pw0 (sF w b) 11 an 1 2184 (TB pw0 (sF w b) os) (W.piecesOf (W.behindTheImports pw0) (eN pw0) (cN pw0) po [W.topFrame po])=some (.next,(TF pw0 (sF w b) os),cN pw0,pf):=fun b=>by
  cases b
  ·exact b0f w os
  ·exact b0t w os
 have h:=h (w.params.followText "special-get-raises")
 rw [J5O] at h
 exact h
theorem b1 (w:World) (os:OsState):(W.topRun treeTable pw0 w 11 an 2 (TF pw0 w os).abs (W.restOf [] (eN pw0) (cN pw0) pf [W.topFrame po])).map (fun s=>(W.staticsOk (importedModules pw0.main.body) (W.boot_heap w.params) s.heap&&W.namesBound pw0 s.heap&&W.gensDone s&&W.laidKept (W.boot_heap w.params) s.heap))=some true:=by
 kernel_rfl
theorem b2 (w:World) (os:OsState):(W.topRun treeTable pw0 w 11 an 2 (TF pw0 w os).abs (W.restOf [] (eN pw0) (cN pw0) pf [W.topFrame po])).map (fun s=>W.openSeen qv ["ROW_SIGNS"] (importedModules pw0.main.body) (fun s=>W.xlAt qv [] s&&W.recOk (W.RowW.records rv) s) true s)=some (W.openGood qv ["ROW_SIGNS"]):=by
 kernel_rfl
theorem b3 (w:World) (os:OsState):(W.topRun treeTable pw0 w 11 an 2 (TF pw0 w os).abs (W.restOf [] (eN pw0) (cN pw0) pf [W.topFrame po])).map (fun s=>W.Hook.obs (W.kHook KK KA ka_eq) s)=some (W.Hook.val (W.kHook KK KA ka_eq) w):=by
 kernel_rfl
theorem b4 (w:World) (os:OsState):∃ T s,W.segRunT treeTable pw0 w 11 an 1 2184 (TB pw0 w os) (W.piecesOf (W.behindTheImports pw0) (eN pw0) (cN pw0) po [W.topFrame po])=some (.next,T,cN pw0,pf)∧W.topRun treeTable pw0 w 11 an 2 T.abs (W.restOf [] (eN pw0) (cN pw0) pf [W.topFrame po])=some s∧(W.staticsOk (importedModules pw0.main.body) (W.boot_heap w.params) s.heap&&W.namesBound pw0 s.heap&&W.gensDone s&&W.laidKept (W.boot_heap w.params) s.heap)=true∧W.openSeen qv ["ROW_SIGNS"] (importedModules pw0.main.body) (fun s=>W.xlAt qv [] s&&W.recOk (W.RowW.records rv) s) true s=W.openGood qv ["ROW_SIGNS"]∧W.Hook.obs (W.kHook KK KA ka_eq) s=W.Hook.val (W.kHook KK KA ka_eq) w:=by
 obtain ⟨s,hs,y1⟩:=Option.map_eq_some_iff.mp (b1 w os)
 obtain ⟨s2,hs2,y2⟩:=Option.map_eq_some_iff.mp (b2 w os)
 obtain ⟨s3,hs3,y3⟩:=Option.map_eq_some_iff.mp (b3 w os)
 cases Option.some.inj (hs.symm.trans hs2)
 cases Option.some.inj (hs.symm.trans hs3)
 exact ⟨TF pw0 w os,s,b0 w os,hs,y1,y2,y3⟩
theorem r7 (w:World) (os:OsState):∃ s,W.topRun treeTable pw0 w 11 an (12+(1+(2184+2))) (Y0 w os) (W.topStub pw0)=some s∧(W.staticsOk (importedModules pw0.main.body) (W.boot_heap w.params) s.heap&&W.namesBound pw0 s.heap&&W.gensDone s&&W.laidKept (W.boot_heap w.params) s.heap)=true∧W.openSeen qv ["ROW_SIGNS"] (importedModules pw0.main.body) (fun s=>W.xlAt qv [] s&&W.recOk (W.RowW.records rv) s) true s=W.openGood qv ["ROW_SIGNS"]∧W.Hook.obs (W.kHook KK KA ka_eq) s=W.Hook.val (W.kHook KK KA ka_eq) w:=by
 obtain ⟨T,s,h1,h2,h3,h4,h5⟩:=b4 w os
 refine ⟨s,W.go_top (r1 w os) (W.piece_block (r2 w os) ?_),h3,h4,h5⟩
 have h6:=W.segRun_of h1
 rw [r3] at h6
 have h7:=W.piece_app (rest:=[]) h6 h2
 rw [List.append_nil] at h7
 exact h7
theorem r8:∀ w:World,((W.boot_heap w.params).isNs mainGlobals&&(Array.mk ([]:List GenState)).size == 0)=true∧(W.boot_heap w.params).objs.size=11∧(W.boot_heap w.params).nsMap mainGlobals "__annotations__"=an:=by
 intro w
 exact ⟨by kernel_rfl,by kernel_rfl,by kernel_rfl⟩
theorem r9:∀ w:World,(W.fencedOpening treeTable pw0 w 4492).map (fun s=>(s.heap,s.gens,s.drawn,s.toks))=some (W.boot_heap w.params,Array.mk [],W.boot_drawn,W.boot_toks):=W.boot_open rfl rfl fun s=>rfl
theorem left:W.LeftO pw0 qv ["ROW_SIGNS"] (fun s=>W.xlAt qv [] s&&W.recOk (W.RowW.records rv) s) (W.Hook.obs (W.kHook KK KA ka_eq)) (W.Hook.val (W.kHook KK KA ka_eq)) 4492:=J2a r9 r8 (by decide) r7
theorem ws0:rw0.wellSaid=true:=by
 kernel_rfl
end K65
end
section
namespace L2
open PySem PySem.Spec PyProof.Rows
abbrev Key:=Sum Int Str
def Z6B:Key→Value→Bool
 | .inl k,v=>Value.isInt k v
 | .inr x,v=>Value.isStrOf x v
def keyH (w:World):Key→Int
 | .inl k=>hashInt k
 | .inr x=>hashStr w x
theorem Z1g:∀ {k:Key} {v:Value},Z6B k v=true→(∃ i t,k=Sum.inl i∧v=Value.int i t)∨(∃ x t,k=Sum.inr x∧v=Value.str x t)
 | .inl i,v,h=>by
  obtain ⟨t,e⟩:=Value.isInt_shape (k:=i) (v:=v) h
  exact .inl ⟨i,t,rfl,e⟩
 | .inr x,v,h=>by
  obtain ⟨t,e⟩:=Value.isStrOf_shape (x:=x) (v:=v) h
  exact .inr ⟨x,t,rfl,e⟩
theorem Z8K (i:Int) (t:Tok):Z6B (.inl i) (.int i t)=true:=by simp [Z6B,Value.isInt]
theorem Z9a (x:Str) (t:Tok):Z6B (.inr x) (.str x t)=true:=by simp [Z6B,Value.isStrOf]
theorem J4F (a b:Int):decide ((Sum.inl a:Key)=Sum.inl b)=(a == b):=by
 by_cases e:a=b
 ·subst e; simp
 ·have h:¬ (Sum.inl a:Key)=Sum.inl b:=fun q=>e (Sum.inl.inj q)
  rw [decide_eq_false h]
  exact (beq_eq_false_iff_ne.mpr e).symm
theorem J3J (a b:Str):decide ((Sum.inr a:Key)=Sum.inr b)=decide (a=b):=by
 by_cases e:a=b
 ·subst e; simp
 ·have h:¬ (Sum.inr a:Key)=Sum.inr b:=fun q=>e (Sum.inr.inj q)
  rw [decide_eq_false h,decide_eq_false e]
theorem J4V (a:Int) (b:Str):decide ((Sum.inl a:Key)=Sum.inr b)=false:=decide_eq_false (fun q=>nomatch q)
theorem J4O (a:Str) (b:Int):decide ((Sum.inr a:Key)=Sum.inl b)=false:=decide_eq_false (fun q=>nomatch q)
def Z0Z (prog:Program) (w:World):PySem.KeyKind prog w Key where
 is:=Z6B
 hash:=keyH w
 inj:=fun v a b ha hb=>by
  rcases Z1g ha with ⟨i,t,rfl,rfl⟩ | ⟨x,t,rfl,rfl⟩
  ·rcases Z1g hb with ⟨j,u,rfl,e⟩ | ⟨y,u,rfl,e⟩
   ·injection e with e1 _; rw [e1]
   ·exact nomatch e
  ·rcases Z1g hb with ⟨j,u,rfl,e⟩ | ⟨y,u,rfl,e⟩
   ·exact nomatch e
   ·injection e with e1 _; rw [e1]
 byValue:=fun k v h=>by
  rcases Z1g h with ⟨i,t,rfl,rfl⟩ | ⟨x,t,rfl,rfl⟩ <;> rfl
 pyHash:=fun hv h=>by
  rcases Z1g hv with ⟨i,t,rfl,rfl⟩ | ⟨x,t,rfl,rfl⟩
  ·exact wpAny_pyHash_int h
  ·exact wpAny_pyHash_str h
 eqBool:=fun hu hv h=>by
  rcases Z1g hu with ⟨i,t,rfl,rfl⟩ | ⟨x,t,rfl,rfl⟩
  ·rcases Z1g hv with ⟨j,u,rfl,rfl⟩ | ⟨y,u,rfl,rfl⟩
   ·rw [J4F] at h; exact wpAny_eqBool_int h
   ·rw [J4V] at h; exact SeqAt.EqAt.int_str i t y u _ _ _ _ h
  ·rcases Z1g hv with ⟨j,u,rfl,rfl⟩ | ⟨y,u,rfl,rfl⟩
   ·rw [J4O] at h; exact SeqAt.EqAt.str_int x t j u _ _ _ _ h
   ·rw [J3J] at h; exact wpAny_eqBool_str h
 «strs»:=fun k x t v h=>by
  rcases Z1g h with ⟨i,u,rfl,e⟩ | ⟨y,u,rfl,e⟩
  ·exact nomatch e
  ·injection e with e1 _
   subst e1
   cases v <;> rfl
theorem Z6v (prog:Program) (w:World) (i:Int) (t:Tok):(Z0Z prog w).is (.inl i) (.int i t)=true:=Z8K i t
theorem Z6C (prog:Program) (w:World) (x:Str) (t:Tok):(Z0Z prog w).is (.inr x) (.str x t)=true:=Z9a x t
end L2
namespace L2
open PySem PySem.Spec PyProof.Rows
inductive V where
 | non | bl (b:Bool) | int (i:Int) | str (x:Str) | byt (b:Array UInt8) | flt (b:UInt64) | ref (a:Addr) | ty (n:String)
 deriving DecidableEq
def RelV:V→Value→Prop
 | .non,u=>u=Value.none
 | .bl b,u=>u=Value.bool b
 | .int i,u=>∃ t,u=Value.int i t
 | .str x,u=>∃ t,u=Value.str x t
 | .byt b,u=>∃ t,u=Value.bytes b t
 | .flt b,u=>∃ t,u=Value.float b t
 | .ref a,u=>u=Value.ref a
 | .ty n,u=>u=Value.type n
abbrev Vals:List V→List Value→Prop:=Paired RelV
theorem Vals.length {xs:List V} {us:List Value} (r:Vals xs us):xs.length=us.length:=Paired.length r
theorem Vals.get:∀ {xs:List V} {us:List Value} {i:Nat} {x:V},Vals xs us→xs[i]?=some x→∃ u,us[i]?=some u∧RelV x u
 | _,_,_,_,.nil,e=>by simp at e
 | _,_,0,_,.cons r _,e=>by simp at e; subst e; exact ⟨_,rfl,r⟩
 | _,_,i+1,x,.cons _ t,e=>by
  obtain ⟨u,h1,h2⟩:=Vals.get (i:=i) (x:=x) t (by simpa using e)
  exact ⟨u,by simpa using h1,h2⟩
theorem Vals.set {x:V} {u:Value} (r:RelV x u):∀ {xs:List V} {us:List Value} (i:Nat),Vals xs us→Vals (xs.set i x) (us.set i u)
 | _,_,_,.nil=>.nil
 | _,_,0,.cons _ t=>.cons r t
 | _,_,i+1,.cons q t=>.cons q (Vals.set r i t)
theorem Vals.append:∀ {xs ys:List V} {us ws:List Value},Vals xs us→Vals ys ws→Vals (xs++ys) (us++ws)
 | _,_,_,_,.nil,s=>s
 | _,_,_,_,.cons r t,s=>.cons r (Vals.append t s)
theorem Vals.take:∀ {xs:List V} {us:List Value} (n:Nat),Vals xs us→Vals (xs.take n) (us.take n)
 | _,_,0,_=>.nil
 | _,_,_+1,.nil=>.nil
 | _,_,n+1,.cons r t=>.cons r (Vals.take n t)
theorem Vals.drop:∀ {xs:List V} {us:List Value} (n:Nat),Vals xs us→Vals (xs.drop n) (us.drop n)
 | _,_,0,r=>r
 | _,_,_+1,.nil=>.nil
 | _,_,n+1,.cons _ t=>Vals.drop n t
def RelO:Option V→Option Value→Prop
 | some v,some u=>RelV v u
 | none,none=>True
 | _,_=>False
def KV {κ:Type}:List (κ×V)→List (κ×Value)→Prop:=Paired fun (p:κ×V) (q:κ×Value)=>p.1=q.1∧RelV p.2 q.2
def kV:Key→V
 | .inl i=>.int i
 | .inr x=>.str x
inductive HO where
 | lst (xs:List V)
 | tup (xs:List V)
 | dK (kvs:List (Key×V)) | dT (kvs:List (List Key×V))
 | set (S:Int→Bool) (n:Nat)
 | ins (C dx:Addr) (fs:List (Str×V))
 | own (x:Addr)
 | xd (fs:List (Str×V))
 | met (f x:Addr)
 | rng (lo hi:Int)
 | frz (o:Obj) (u:HO)
 | tbl (ps:Array Value)
 | ext (φ:Heap→Prop)
abbrev Hp:=Addr→Option HO
def upd (H:Hp) (a:Addr) (o:HO):Hp:=fun b=>if b=a then some o else H b
theorem Z0e {H:Hp} {a:Addr} {o:HO}:upd H a o a=some o:=by unfold upd; rw [if_pos rfl]
theorem Z0h {H:Hp} {a b:Addr} {o:HO} (h:b≠a):upd H a o b=H b:=by unfold upd; rw [if_neg h]
theorem Z6p {H:Hp} {a:Addr} {o u:HO}:upd (upd H a o) a u=upd H a u:=by
 funext b; unfold upd; split <;> rfl
theorem Z1l {H:Hp} {a b:Addr} {o u:HO} (h:H a=some o) (h':H b=some u) (d:o≠u):a≠b:=by
 intro e; subst e; rw [h] at h'; exact d (Option.some.inj h')
theorem Z0t {H:Hp} {a b:Addr} {o:HO} (h:H a=some o) (h':H b=none):a≠b:=by
 intro e; subst e; rw [h] at h'; cases h'
theorem Z4M {h:Heap} {xs:Array Value} {n:Nat}:∀ o,(h.push { cls:=.type "tuple",data:=.seq xs n }).get? h.objs.size=some o→o.dict=none:=fun o q=>by
 rw [Heap.get?_push_size _ rfl] at q; cases q; rfl
section
variable (P:Program) (w:World)
def ObjOk (H:Hp) (h:Heap) (a:Addr):HO→Prop
 | .lst xs=>xs.length≤sizeLine∧∃ (its:List Value) (n:Nat),Vals xs its∧h.get? a=some { cls:=.type "list",data:=.seq its.toArray n }
 | .tup xs=>(xs.length≤sizeLine∧∀ o,h.get? a=some o→o.dict=none)∧∃ its:List Value,Vals xs its∧IsTup h a its.toArray
 | .dK kvs=>kvs.length≤sizeLine∧(a == sysModules)=false∧∃ vs,KV kvs vs∧h.DictOf (Z0Z P w) a vs
 | .dT kvs=>kvs.length≤sizeLine∧(a == sysModules)=false∧∃ xs:List (List Key×Addr×Value),
   Paired (fun (p:List Key×V) (q:List Key×Addr×Value)=>p.1=q.1∧H q.2.1=some (.tup (p.1.map kV))∧RelV p.2 q.2.2) kvs xs ∧
   ∃ o es ep,h.get? a=some o∧o.ExactDict∧o.data=.dict es ep∧es.toList=xs.map (entryOfKey (tupleKind (Z0Z P w)))∧(xs.map (·.1)).Nodup
 | .set S n=>h.SetOf (intKind P w) a S n
 | .ins C dx fs=>H dx=some (.own a)∧fs.length≤1000∧dx≠a∧h.get? a=some (W.instObj C dx) ∧
   ∃ mA,h.Ns1 dx mA∧(∀ f,RelO (fs.lookup f) (mA f))∧PySem.Within mA (fs.map (·.1))
 | .own _=>∃ o,h.get? a=some o
 | .xd fs=>∃ mA,h.Ns1 a mA∧∀ f,RelO (fs.lookup f) (mA f)
 | .rng lo hi=>∃ t u v,h.get? a=some { cls:=.type "range",data:=.fields #[.int lo t,.int hi u,.int 1 v] }
 | .frz o u=>h.get? a=some o∧ObjOk H h a u
 | .tbl ps=>h.get? a=some { cls:=.none,data:=.fields ps }
 | .met f x=>h.get? a=some (W.methodObj (.ref f) (.ref x))
 | .ext φ=>φ h∧(∃ o,h.get? a=some o)∧∀ h1 h2:Heap,φ h1→(∀ o,h1.get? a=some o→h2.get? a=some o)→φ h2
def HOk (H:Hp) (h:Heap):Prop:=∀ a o,H a=some o→ObjOk P w H h a o
end
section
variable {P:Program} {w:World} {H H':Hp} {h h':Heap} {a:Addr} {o:HO}
theorem ObjOk.lt (x:ObjOk P w H h a o):a < h.objs.size:=by
 cases o with
 | lst xs=>obtain ⟨_,_,_,_,e⟩:=x; exact Heap.lt_size e
 | tup xs=>obtain ⟨_,_,_,p⟩:=x; exact p.lt
 | dK kvs=>obtain ⟨_,_,_,_,o,_,_,e,_⟩:=x; exact Heap.lt_size e
 | dT kvs=>obtain ⟨_,_,_,_,o,_,_,e,_⟩:=x; exact Heap.lt_size e
 | set S n=>obtain ⟨o,_,_,_,e,_⟩:=x; exact Heap.lt_size e
 | ins C dx fs=>obtain ⟨_,_,_,e,_⟩:=x; exact Heap.lt_size e
 | own y=>obtain ⟨_,e⟩:=x; exact Heap.lt_size e
 | xd fs=>obtain ⟨_,⟨_,_,_,e,_⟩,_⟩:=x; exact Heap.lt_size e
 | rng lo hi=>obtain ⟨_,_,_,e⟩:=x; exact Heap.lt_size e
 | frz ob u=>obtain ⟨e,_⟩:=x; exact Heap.lt_size e
 | tbl ps=>exact Heap.lt_size (show h.get? a=some _ from x)
 | met f y=>exact Heap.lt_size (show h.get? a=some _ from x)
 | ext φ=>obtain ⟨_,⟨_,e⟩,_⟩:=x; exact Heap.lt_size e
theorem Paired.mapP {α β:Type} {F G:α→β→Prop}:∀ {l₁:List α} {l₂:List β},Paired F l₁ l₂→(∀ a b,F a b→G a b)→Paired G l₁ l₂
 | _,_,.nil,_=>.nil
 | _,_,.cons r t,f=>.cons (f _ _ r) (Paired.mapP t f)
theorem Paired.imp' {α β:Type} {F G:α→β→Prop} (f:∀ a b,F a b→G a b) {l₁:List α} {l₂:List β} (r:Paired F l₁ l₂):Paired G l₁ l₂:=Paired.mapP r f
theorem ObjOk.stay (x:ObjOk P w H h a o) (k:∀ b u,(b=a∨H b=some (.own a))→h.get? b=some u→h'.get? b=some u)
  (ho:∀ b,H b=some (.own a)→H' b=some (.own a)) (ht:∀ b xs,H b=some (.tup xs)→H' b=some (.tup xs)):ObjOk P w H' h' a o:=by
 induction o with
 | lst xs=>obtain ⟨z,its,n,r,e⟩:=x; exact ⟨z,its,n,r,k _ _ (.inl rfl) e⟩
 | tup xs=>obtain ⟨z,its,r,ob,e,c⟩:=x; exact ⟨⟨z.1,fun o q=>by rw [k _ _ (.inl rfl) e] at q; cases q; exact z.2 _ e⟩,its,r,ob,k _ _ (.inl rfl) e,c⟩
 | dK kvs=>obtain ⟨z,y,vs,r,ob,es,ep,e,c⟩:=x; exact ⟨z,y,vs,r,ob,es,ep,k _ _ (.inl rfl) e,c⟩
 | dT kvs=>
  obtain ⟨z,y,xs,r,ob,es,ep,e,c⟩:=x
  exact ⟨z,y,xs,Paired.mapP r fun p q z=>⟨z.1,ht _ _ z.2.1,z.2.2⟩,ob,es,ep,k _ _ (.inl rfl) e,c⟩
 | set S n=>obtain ⟨ob,es,ep,t,e,c⟩:=x; exact ⟨ob,es,ep,t,k _ _ (.inl rfl) e,c⟩
 | ins C dx fs=>
  obtain ⟨d,z,ne,e,mA,⟨od,es,ep,e2,c⟩,r⟩:=x
  exact ⟨ho _ d,z,ne,k _ _ (.inl rfl) e,mA,⟨od,es,ep,k _ _ (.inr d) e2,c⟩,r⟩
 | own y=>obtain ⟨ob,e⟩:=x; exact ⟨ob,k _ _ (.inl rfl) e⟩
 | xd fs=>obtain ⟨mA,⟨od,es,ep,e,c⟩,r⟩:=x; exact ⟨mA,⟨od,es,ep,k _ _ (.inl rfl) e,c⟩,r⟩
 | rng lo hi=>obtain ⟨t,u,v,e⟩:=x; exact ⟨t,u,v,k _ _ (.inl rfl) e⟩
 | frz ob u ih=>obtain ⟨e,q⟩:=x; exact ⟨k _ _ (.inl rfl) e,ih q⟩
 | tbl ps=>
  have e:h.get? a=some { cls:=.none,data:=.fields ps }:=x
  show h'.get? a=some { cls:=.none,data:=.fields ps }
  exact k a _ (.inl rfl) e
 | met f y=>
  have e:h.get? a=some (W.methodObj (.ref f) (.ref y)):=x
  show h'.get? a=some (W.methodObj (.ref f) (.ref y))
  exact k a _ (.inl rfl) e
 | ext φ=>obtain ⟨p,⟨o,e⟩,st⟩:=x; exact ⟨st _ _ p fun o q=>k _ _ (.inl rfl) q,⟨o,k _ _ (.inl rfl) e⟩,st⟩
theorem HOk.lt (x:HOk P w H h) (e:H a=some o):a < h.objs.size:=(x a o e).lt
theorem HOk.fresh (x:HOk P w H h) (e:h.objs.size≤a):H a=none:=by
 cases q:H a with
 | none=>rfl
 | some u=>exact absurd (Nat.lt_of_lt_of_le (x.lt q) e) (Nat.lt_irrefl _)
theorem HOk.kept (x:HOk P w H h) (k:∀ b u,h.get? b=some u→h'.get? b=some u):HOk P w H h':=fun a o e=>
 (x a o e).stay (fun b u _ q=>k b u q) (fun _ q=>q) fun _ _ q=>q
theorem HOk.laid (x:HOk P w H h) (k:∀ b u,h.get? b=some u→h'.get? b=some u) (hp:h.objs.size≤a) (new:ObjOk P w (upd H a o) h' a o):HOk P w (upd H a o) h':=fun b u e=>by
 have hn:=x.fresh hp
 by_cases hb:b=a
 ·subst hb; rw [Z0e] at e; cases e; exact new
 ·rw [Z0h hb] at e
  exact (x b u e).stay (fun c v _ q=>k c v q) (fun c q=>by rw [Z0h (Z0t q hn)]; exact q) fun c xs q=>by rw [Z0h (Z0t q hn)]; exact q
end
def Rd (H:Hp) (a:Addr) (u:HO):Prop:=H a=some u∨∃ o,H a=some (.frz o u)
theorem Rd.of {H:Hp} {a:Addr} {u:HO} (h:H a=some u):Rd H a u:=.inl h
theorem Rd.ok {P:Program} {w:World} {H:Hp} {h:Heap} {a:Addr} {u:HO} (r:Rd H a u) (x:HOk P w H h):ObjOk P w H h a u:=by
 rcases r with r | ⟨o,r⟩
 ·exact x a u r
 ·obtain ⟨_,q⟩:=x a _ r
  exact q
def Mut:Option HO→Prop
 | some (.lst _)=>True
 | some (.dK _)=>True
 | some (.dT _)=>True
 | some (.set _ _)=>True
 | some (.ins _ _ _)=>True
 | some (.ext _)=>True
 | _=>False
section
variable {P:Program} {w:World} {H:Hp} {h h':Heap} {x e:Addr} {o':HO}
theorem HOk.write (ok:HOk P w H h) (mu:Mut (H x)) (he:e=x∨H e=some (.own x)) (k:∀ b u,b≠e→h.get? b=some u→h'.get? b=some u) (heo:∃ u,h'.get? e=some u)
  (new:ObjOk P w (upd H x o') h' x o'):HOk P w (upd H x o') h':=fun b u q=>by
 have nown:∀ c y,H c=some (.own y)→c≠x:=fun c y r z=>by subst z; rw [r] at mu; exact mu
 have ntup:∀ c xs,H c=some (.tup xs)→c≠x:=fun c xs r z=>by subst z; rw [r] at mu; exact mu
 by_cases hb:b=x
 ·subst hb; rw [Z0e] at q; cases q; exact new
 ·rw [Z0h hb] at q
  by_cases hbe:b=e
  ·have q':H b=some (.own x):=by
    rcases he with z | z
    ·exact absurd (hbe.trans z) hb
    ·rw [hbe]; exact z
   rw [q] at q'; cases q'
   obtain ⟨v,hv⟩:=heo
   exact ⟨v,by rw [hbe]; exact hv⟩
  ·refine (ok b u q).stay (fun c v hc r=>k c v ?_ r) (fun c r=>by rw [Z0h (nown c b r)]; exact r) fun c xs r=>by rw [Z0h (ntup c xs r)]; exact r
   rcases hc with rfl | hc
   ·exact hbe
   ·rintro rfl
    rcases he with z | z
    ·exact nown c b hc z
    ·rw [hc] at z; cases z; exact hb rfl
end
structure Un (fs ex:List Addr) (H H':Hp) (h h':Heap):Prop where
 keep:∀ b o,h.get? b=some o→H b=none→b∉fs→b∉ex→h'.get? b=some o
 slot:∀ b o,h.get? b=some o→H b=none→b∈fs→b∉ex→∃ sl,h'.get? b=some { o with slots:=sl }
 free:∀ b o,h.get? b=some o→H b=none→b∉ex→H' b=none
 there:∀ b o,h.get? b=some o→b∉ex→∃ o',h'.get? b=some o'
 tups:∀ b xs,H b=some (.tup xs)→H' b=some (.tup xs)
 frzs:∀ b o u,H b=some (.frz o u)→H' b=some (.frz o u)
 tbls:∀ b ps,H b=some (.tbl ps)→∃ more,H' b=some (.tbl (ps++more))
section
variable {fs fs' ex ex':List Addr} {H H1 H2:Hp} {h h1 h2 h':Heap} {a x e:Addr} {o:HO}
theorem Un.any (u:Un fs ex H H1 h h1) {b:Addr} {ob:Obj} (q:h.get? b=some ob) (n:H b=none) (hx:b∉ex):∃ sl,h1.get? b=some { ob with slots:=sl }:=by
 by_cases hb:b∈fs
 ·exact u.slot b ob q n hb hx
 ·exact ⟨ob.slots,u.keep b ob q n hb hx⟩
theorem Un.kept (k:∀ b u,h.get? b=some u→h'.get? b=some u):Un fs ex H H h h':=
 ⟨fun b ob q _ _ _=>k b ob q,fun b ob q _ _ _=>⟨ob.slots,k b ob q⟩,fun _ _ _ n _=>n,fun b ob q _=>⟨ob,k b ob q⟩,fun _ _ q=>q,fun _ _ _ q=>q,fun _ ps q=>⟨#[],by rw [q]; simp⟩⟩
theorem Un.refl:Un fs ex H H h h:=Un.kept fun _ _ q=>q
theorem Un.laid (k:∀ b u,h.get? b=some u→h'.get? b=some u) (hp:h.objs.size≤a) (hn:H a=none):Un fs ex H (upd H a o) h h' where
 keep:=fun b u q _ _ _=>k b u q
 slot:=fun b u q _ _ _=>⟨u.slots,k b u q⟩
 free:=fun b u q n _=>by rw [Z0h (Nat.ne_of_lt (Nat.lt_of_lt_of_le (Heap.lt_size q) hp))]; exact n
 there:=fun b u q _=>⟨u,k b u q⟩
 tups:=fun b xs q=>by rw [Z0h (Z0t q hn)]; exact q
 frzs:=fun b u xs q=>by rw [Z0h (Z0t q hn)]; exact q
 tbls:=fun b ps q=>⟨#[],by rw [Z0h (Z0t q hn),q]; simp⟩
theorem Un.write (mu:Mut (H x)) (he:e=x∨H e=some (.own x)) (k:∀ b u,b≠e→h.get? b=some u→h'.get? b=some u) (heo:∃ u,h'.get? e=some u):Un fs ex H (upd H x o) h h':=by
 have hx:∀ b,H b=none→b≠x:=fun b n z=>by subst z; rw [n] at mu; exact mu
 have hb:∀ b,H b=none→b≠e:=fun b n z=>by
  subst z
  rcases he with r | r
  ·exact hx b n r
  ·rw [n] at r; cases r
 have hm:∀ b u,H b=some u→¬ Mut (some u)→b≠x:=fun b u q nm z=>by subst z; rw [q] at mu; exact nm mu
 refine ⟨fun b u q n _ _=>k b u (hb b n) q,fun b u q n _ _=>⟨u.slots,k b u (hb b n) q⟩,fun b u q n _=>by rw [Z0h (hx b n)]; exact n,fun b u q _=>?_,
  fun b xs q=>by rw [Z0h (hm b _ q fun z=>z)]; exact q,fun b u xs q=>by rw [Z0h (hm b _ q fun z=>z)]; exact q,fun b ps q=>⟨#[],by rw [Z0h (hm b _ q fun z=>z),q]; simp⟩⟩
 by_cases hbe:b=e
 ·subst hbe; exact heo
 ·exact ⟨u,k b u hbe q⟩
end
def trk (h:Heap) (H:Hp):List Addr:=(List.range h.objs.size).filter fun a=>(H a).isSome
def hidT (h:Heap) (H:Hp):Heap:=W.hideAll h (trk h H)
theorem Z9B (h:Heap) (H:Hp):(hidT h H).objs.size=h.objs.size:=W.hideAll_size _ _
theorem J0w {h:Heap} {H:Hp} {b:Addr} {o:Obj} (e:h.get? b=some o) (n:H b=none):(hidT h H).get? b=some o:=
 W.hideAll_get _ e fun hm=>by
  have q:(H b).isSome=true:=(List.mem_filter.mp hm).2
  rw [n] at q; simp at q
theorem J2R {h:Heap} {H:Hp} {b:Addr} {o:Obj} (e:(hidT h H).get? b=some o):h.get? b=some o∧H b=none:=by
 have e':h.get? b=some o:=W.of_hideAll (trk h H) e
 refine ⟨e',?_⟩
 cases q:H b with
 | none=>rfl
 | some x=>
  have hm:b∈trk h H:=List.mem_filter.mpr ⟨List.mem_range.mpr (Heap.lt_size e'),by simp [q]⟩
  have z:(hidT h H).get? b=none:=W.hideAll_none (trk h H) hm
  rw [z] at e; cases e
def J2k (g h:Heap) (L:Addr):List (Addr×Obj):=(List.range h.objs.size).filterMap fun a=>if a=L∨(g.get? a).isSome=true then none else (h.get? a).map fun o=>(a,o)
def rest (g h:Heap) (L d:Addr):List (Addr×Obj):=(J2k g h L).filter fun p=>decide (p.1≠d)
end L2
namespace L2
open PySem PySem.Spec PyProof.Rows
structure Mod (K:W.Frag) (mg:Str→Option Value) (base:Heap):Prop where
 kin:K.In base
 glob:base.Ns mainGlobals mg
 blt:∃ mb,base.Ns builtinsNs mb∧∀ x:Str,x≠"__name__"→mb x=bootBuiltins x
 nolimit:base.NoLimit
structure Cx where
 prog:Program
 w:World
 K:W.Frag
 mg:Str→Option Value
 base:Heap
 A:Around
 N:List Str
 s₀:Shared
 H₀:Hp
 env:Env
 outer:List Env
 stack:List Env
 ex:List Addr
 fn:Str→Bool
 calm:Bool
 pn:List (Addr×Obj)
 xe:Value→Shared→Prop
def frs (l:List Env):List Addr:=l.filterMap (·.frame)
abbrev Cx.fs (X:Cx):List Addr:=frs X.outer
def Vis (sc:Scope) (x:Str):Prop:=sc.names.lookup x=some .local∨sc.names.lookup x=some .cell∨sc.names.lookup x=some .free
def Loc (sc:Scope) (x:Str):Prop:=sc.names.lookup x=some .local∨sc.names.lookup x=some .cell
def Look (env:Env) (h:Heap) (m:Str→Option Value) (x:Str) (u:Value):Prop:=
 (env.kindOf x=some .local∧m x=some u)∨((env.kindOf x=some .cell∨env.kindOf x=some .free)∧∃ c,env.cells.lookup x=some c∧h.IsCell c (some u))
structure Cx.Ok (X:Cx):Prop where
 mod:Mod X.K X.mg X.base
 kind:X.env.scope.kind=.function
 glob:X.env.globals=mainGlobals
 blt:X.env.builtins=builtinsNs
 above:X.s₀.heap.objs.size≤X.env.locals
 inj:∀ x y c,X.env.cells.lookup x=some c→X.env.cells.lookup y=some c→x=y
 has:∀ x,(X.env.kindOf x=some .cell∨X.env.kindOf x=some .free)→∃ c,X.env.cells.lookup x=some c
 cab:∀ x c,X.fn x=true→X.env.cells.lookup x=some c→X.s₀.heap.objs.size≤c
 hd:X.calm=true→X.A.handled=none
 frames:X.A.frames=some X.stack
 stk:X.stack=X.outer∨(X.stack=X.env::X.outer∧X.env.frame=some X.env.locals)
 exf:∀ b∈X.ex,b≠X.env.locals∧∀ x c,X.env.cells.lookup x=some c→c≠b
 bs:∀ b o,X.base.get? b=some o→X.s₀.heap.get? b=some o∧X.H₀ b=none
 bsz:X.base.objs.size≤X.s₀.heap.objs.size
 noex:∀ b o,X.base.get? b=some o→b∉X.ex
 exfs:∀ b∈X.ex,b∉X.fs
 funs:X.s₀.heap.FunFrames X.base X.outer
 frf:∀ b∈X.fs,X.H₀ b=none
structure Inv (X:Cx) (pins:List (Addr×Obj)) (σ:List (Option V)) (H:Hp) (s:Shared):Prop where
 ok:X.Ok
 os:s.os=X.s₀.os
 bare:AllBare s.gens
 base:Un X.fs X.ex X.H₀ H X.s₀.heap s.heap
 loc:∃ m,s.heap.Ns X.env.locals m∧∀ (i:Nat) (x:Str) (v:V),X.N[i]?=some x→σ[i]?=some (some v)→Vis X.env.scope x→∃ u,RelV v u∧Look X.env s.heap m x u
 cell:∀ x c,X.env.cells.lookup x=some c→∃ v,s.heap.IsCell c v
 free:H X.env.locals=none
 freeC:∀ x c,X.env.cells.lookup x=some c→H c=none
 pin:∀ p∈X.pn++pins,s.heap.get? p.1=some p.2∧H p.1=none∧p.1≠X.env.locals∧p.1∉X.fs∧∀ v,p.2.data≠.cell v
 hok:HOk X.prog X.w H s.heap
 len:σ.length=X.N.length
section
variable {X:Cx} {pins:List (Addr×Obj)} {σ:List (Option V)} {H H':Hp} {s:Shared} {h':Heap}
theorem Cx.Ok.nofr (ok:X.Ok) {b:Addr} {o:Obj} (e:X.base.get? b=some o):b∉X.fs:=fun hb=>by
 have:=(ok.funs.mem hb).1
 rw [e] at this; cases this
theorem Inv.bs (I:Inv X pins σ H s):∀ b o,X.base.get? b=some o→s.heap.get? b=some o∧H b=none:=fun b o e=>
 ⟨I.base.keep b o (I.ok.bs b o e).1 (I.ok.bs b o e).2 (I.ok.nofr e) (I.ok.noex b o e),I.base.free b o (I.ok.bs b o e).1 (I.ok.bs b o e).2 (I.ok.noex b o e)⟩
theorem Inv.bk (I:Inv X pins σ H s):∀ b o,X.base.get? b=some o→s.heap.get? b=some o:=fun b o e=>(I.bs b o e).1
theorem Inv.mod (I:Inv X pins σ H s):Mod X.K X.mg X.base:=I.ok.mod
theorem Inv.kIn (I:Inv X pins σ H s):X.K.In s.heap:=I.ok.mod.kin.keeps I.bk
theorem Inv.lt (I:Inv X pins σ H s):X.env.locals < s.heap.objs.size:=let ⟨_,hn,_⟩:=I.loc; hn.lt
theorem Inv.sz (I:Inv X pins σ H s):X.s₀.heap.objs.size≤s.heap.objs.size:=Nat.le_trans I.ok.above (Nat.le_of_lt I.lt)
theorem Inv.nofs (I:Inv X pins σ H s) {a:Addr} (h:s.heap.objs.size≤a):a∉X.fs:=fun hb=>by
 obtain ⟨_,o,ho,_⟩:=I.ok.funs.mem hb
 exact absurd (Nat.lt_of_lt_of_le (Heap.lt_size ho) (Nat.le_trans I.sz h)) (Nat.lt_irrefl _)
theorem Inv.cne (I:Inv X pins σ H s):∀ x c,X.env.cells.lookup x=some c→c≠X.env.locals:=fun x c e z=>by
 obtain ⟨v,o,ho,hd⟩:=I.cell x c e
 obtain ⟨m,⟨o',es,ep,ho',hd',_⟩,_⟩:=I.loc
 rw [z,ho'] at ho; cases ho; rw [hd'] at hd; cases hd
theorem Inv.funs (I:Inv X pins σ H s):s.heap.FunFrames X.base X.outer:=by
 have all:∀ (l:List Env),(∀ b∈frs l,b∈X.fs)→X.s₀.heap.FunFrames X.base l→s.heap.FunFrames X.base l:=by
  intro l
  induction l with
  | nil=>intro _ _; trivial
  | cons env r ih=>
   intro hs hl
   obtain ⟨hk,⟨L,o,hf,hn,ho,hd⟩,hr⟩:=hl
   have hL:L∈X.fs:=hs L (by unfold frs; rw [List.filterMap_cons,hf]; exact List.mem_cons_self)
   obtain ⟨sl,e⟩:=I.base.slot L o ho (I.ok.frf L hL) hL fun z=>I.ok.exfs L z hL
   exact ⟨hk,⟨L,_,hf,hn,e,hd⟩,ih (fun b hb=>hs b (by unfold frs; rw [List.filterMap_cons,hf]; exact List.mem_cons_of_mem _ hb)) hr⟩
 exact all X.outer (fun _ hb=>hb) I.ok.funs
theorem Inv.stack (I:Inv X pins σ H s):s.heap.FunFrames X.base X.stack:=by
 rcases I.ok.stk with e | ⟨e,hf⟩
 ·rw [e]; exact I.funs
 ·rw [e]
  obtain ⟨m,hn,_⟩:=I.loc
  refine .cons (by rw [I.ok.kind]; decide) hf hn ?_ I.funs
  exact Heap.get?_none_of_le (Nat.le_trans I.ok.bsz I.ok.above)
theorem Inv.stkSub (I:Inv X pins σ H s):∀ b∈frs X.stack,b∈X.env.locals::X.fs:=fun b hb=>by
 rcases I.ok.stk with e | ⟨e,hf⟩
 ·rw [e] at hb; exact List.mem_cons_of_mem _ hb
 ·rw [e] at hb
  unfold frs at hb
  rw [List.filterMap_cons,hf] at hb
  exact hb
theorem Inv.stkFree (I:Inv X pins σ H s):∀ b∈frs X.stack,H b=none:=fun b hb=>by
 rcases List.mem_cons.mp (I.stkSub b hb) with e | hb
 ·rw [e]; exact I.free
 ·obtain ⟨_,o,ho,_⟩:=I.ok.funs.mem hb
  exact I.base.free b o ho (I.ok.frf b hb) fun z=>I.ok.exfs b z hb
theorem Inv.step {g':Array GenState} {t':Nat} {d':Drawn} {ch:List Addr} (I:Inv X pins σ H s)
  (hch:∀ b∈ch,(b∈X.ex∨X.s₀.heap.objs.size≤b)∧b≠X.env.locals∧(∀ x c,X.env.cells.lookup x=some c→c≠b)∧∀ p∈X.pn++pins,p.1≠b)
  (keep:∀ b o,b≠X.env.locals→b∉X.fs→b∉ch→s.heap.get? b=some o→H b=none→h'.get? b=some o)
  (slot:∀ b o,b≠X.env.locals→b∈X.fs→b∉ch→s.heap.get? b=some o→H b=none→∃ sl,h'.get? b=some { o with slots:=sl }) (free:∀ b o,b∉ch→s.heap.get? b=some o→H b=none→H' b=none)
  (there:∀ b o,b∉ch→s.heap.get? b=some o→∃ o',h'.get? b=some o')
  (tups:∀ b xs,H b=some (.tup xs)→H' b=some (.tup xs)) (frzs:∀ b o u,H b=some (.frz o u)→H' b=some (.frz o u)) (tbls:∀ b ps,H b=some (.tbl ps)→∃ more,H' b=some (.tbl (ps++more)))
  (ns:∀ m,s.heap.Ns X.env.locals m→h'.Ns X.env.locals m) (hok:HOk X.prog X.w H' h') (hg:AllBare g') :
  Inv X pins σ H' { s with heap:=h',gens:=g',drawn:=d',toks:=t' }:=by
 have neL:∀ b o,X.s₀.heap.get? b=some o→b≠X.env.locals:=fun b o e=>Nat.ne_of_lt (Nat.lt_of_lt_of_le (Heap.lt_size e) I.ok.above)
 have neC:∀ b o,X.s₀.heap.get? b=some o→b∉X.ex→b∉ch:=fun b o e hx hb=>by
  rcases (hch b hb).1 with z | z
  ·exact hx z
  ·exact absurd (Nat.lt_of_lt_of_le (Heap.lt_size e) z) (Nat.lt_irrefl _)
 have cellK:∀ x c,X.env.cells.lookup x=some c→∀ v,s.heap.IsCell c v→h'.IsCell c v:=fun x c e v ⟨o,ho,hd⟩=>by
  have nch:c∉ch:=fun z=>(hch c z).2.2.1 x c e rfl
  by_cases hc:c∈X.fs
  ·obtain ⟨sl,q⟩:=slot c o (I.cne x c e) hc nch ho (I.freeC x c e)
   exact ⟨_,q,hd⟩
  ·exact ⟨o,keep c o (I.cne x c e) hc nch ho (I.freeC x c e),hd⟩
 refine ⟨I.ok,I.os,hg,⟨fun b o e n hb hx=>?_,fun b o e n hb hx=>?_,fun b o e n hx=>?_,fun b o e hx=>?_,fun b xs e=>tups b xs (I.base.tups b xs e),fun b o xs e=>frzs b o xs (I.base.frzs b o xs e),fun b ps e=>?_⟩,?_,fun x c e=>?_,?_,fun x c e=>?_,fun p hp=>?_,hok,I.len⟩
 ·exact keep b o (neL b o e) hb (neC b o e hx) (I.base.keep b o e n hb hx) (I.base.free b o e n hx)
 ·obtain ⟨sl,e1⟩:=I.base.slot b o e n hb hx
  obtain ⟨sl',e2⟩:=slot b _ (neL b o e) hb (neC b o e hx) e1 (I.base.free b o e n hx)
  exact ⟨sl',e2⟩
 ·obtain ⟨o',e1⟩:=I.base.there b o e hx
  exact free b o' (neC b o e hx) e1 (I.base.free b o e n hx)
 ·obtain ⟨o',e1⟩:=I.base.there b o e hx
  exact there b o' (neC b o e hx) e1
 ·obtain ⟨m1,e1⟩:=I.base.tbls b ps e
  obtain ⟨m2,e2⟩:=tbls b _ e1
  exact ⟨m1++m2,by rw [e2,Array.append_assoc]⟩
 ·obtain ⟨m,hn,hl⟩:=I.loc
  refine ⟨m,ns m hn,fun i x v e1 e2 e3=>?_⟩
  obtain ⟨u,r,l⟩:=hl i x v e1 e2 e3
  refine ⟨u,r,?_⟩
  rcases l with l | ⟨k,c,e,z⟩
  ·exact .inl l
  ·exact .inr ⟨k,c,e,cellK x c e _ z⟩
 ·obtain ⟨v,z⟩:=I.cell x c e
  exact ⟨v,cellK x c e v z⟩
 ·obtain ⟨m,⟨o,_,_,ho,_⟩,_⟩:=I.loc
  exact free _ o (fun z=>(hch _ z).2.1 rfl) ho I.free
 ·obtain ⟨v,o,ho,hd⟩:=I.cell x c e
  exact free c o (fun z=>(hch c z).2.2.1 x c e rfl) ho (I.freeC x c e)
 ·obtain ⟨e,n,ne,nf,d⟩:=I.pin p hp
  have nch:p.1∉ch:=fun z=>(hch p.1 z).2.2.2 p hp rfl
  exact ⟨keep p.1 p.2 ne nf nch e n,free p.1 p.2 nch e n,ne,nf,d⟩
theorem Inv.un {t':Nat} (I:Inv X pins σ H s) (u:Un X.fs [] H H' s.heap h') (hok:HOk X.prog X.w H' h'):Inv X pins σ H' { s with heap:=h',toks:=t' }:=by
 obtain ⟨m,⟨o,es,ep,ho,r⟩,_⟩:=id I.loc
 obtain ⟨sl,hL⟩:=u.any ho I.free (by simp)
 exact I.step (g':=s.gens) (d':=s.drawn) (ch:=[]) (fun _ z=>nomatch z) (fun b o _ hb _ e n=>u.keep b o e n hb (by simp)) (fun b o _ hb _ e n=>u.slot b o e n hb (by simp)) (fun b o _ e n=>u.free b o e n (by simp)) (fun b o _ e=>u.there b o e (by simp)) u.tups u.frzs u.tbls (fun m' hm=>by
  obtain ⟨o',es',ep',ho',r'⟩:=hm
  rw [ho] at ho'; cases ho'
  exact ⟨_,es',ep',hL,r'⟩) hok I.bare
theorem Inv.call {g':Array GenState} {t':Nat} {d':Drawn} {ch:List Addr} (I:Inv X pins σ H s) (u:Un (frs X.stack) ch H H' s.heap h') (hok:HOk X.prog X.w H' h') (hg:AllBare g')
  (hch:∀ b∈ch,(b∈X.ex∨X.s₀.heap.objs.size≤b)∧b≠X.env.locals∧(∀ x c,X.env.cells.lookup x=some c→c≠b)∧∀ p∈X.pn++pins,p.1≠b) :
  Inv X pins σ H' { s with heap:=h',gens:=g',drawn:=d',toks:=t' }:=by
 obtain ⟨m,⟨o,es,ep,ho,r⟩,_⟩:=id I.loc
 obtain ⟨sl,hL⟩:=u.any ho I.free fun z=>(hch _ z).2.1 rfl
 exact I.step (ch:=ch) hch (fun b o hL hb hc e n=>u.keep b o e n (fun z=>(List.mem_cons.mp (I.stkSub b z)).elim hL hb) hc) (fun b o _ _ hc e n=>u.any e n hc) (fun b o hc e n=>u.free b o e n hc) (fun b o hc e=>u.there b o e hc) u.tups u.frzs u.tbls (fun m' hm=>by
  obtain ⟨o',es',ep',ho',r'⟩:=hm
  rw [ho] at ho'; cases ho'
  exact ⟨_,es',ep',hL,r'⟩) hok hg
theorem Inv.turned {t':Nat} {it:Addr} (I:Inv X pins σ H s) (k:∀ b o,b≠it→s.heap.get? b=some o→h'.get? b=some o) (hn:H it=none) (hL:it≠X.env.locals)
  (h1:it∈X.ex∨X.s₀.heap.objs.size≤it) (h2:∀ x c,X.env.cells.lookup x=some c→c≠it) (h3:∀ p∈X.pn++pins,p.1≠it):Inv X pins σ H { s with heap:=h',toks:=t' }:=by
 have nit:∀ b u,H b=some u→b≠it:=fun b u e z=>by rw [z,hn] at e; cases e
 refine I.step (g':=s.gens) (d':=s.drawn) (ch:=[it]) (fun b hb=>?_) (fun b o _ _ hc e _=>k b o (fun z=>hc (by simp [z])) e) (fun b o _ _ hc e _=>⟨o.slots,k b o (fun z=>hc (by simp [z])) e⟩) (fun _ _ _ _ n=>n)
  (fun b o hc e=>⟨o,k b o (fun z=>hc (by simp [z])) e⟩) (fun _ _ e=>e) (fun _ _ _ e=>e) (fun b ps e=>⟨#[],by rw [e]; simp⟩) (fun m hm=>?_) (fun b u e=>?_) I.bare
 ·have e:b=it:=by simpa using hb
  subst e
  exact ⟨h1,hL,h2,h3⟩
 ·obtain ⟨o,es,ep,ho,r⟩:=hm
  exact ⟨o,es,ep,k _ o (Ne.symm hL) ho,r⟩
 ·refine (I.hok b u e).stay (fun c v hc q=>k c v ?_ q) (fun _ q=>q) fun _ _ q=>q
  rcases hc with z | z
  ·rw [z]; exact nit b u e
  ·exact nit c _ z
theorem Inv.tok (I:Inv X pins σ H s) (t:Nat):Inv X pins σ H { s with toks:=t }:=I.un (h':=s.heap) (t':=t) Un.refl I.hok
theorem Inv.kept {t':Nat} (I:Inv X pins σ H s) (k:∀ b u,s.heap.get? b=some u→h'.get? b=some u):Inv X pins σ H { s with heap:=h',toks:=t' }:=I.un (Un.kept k) (I.hok.kept k)
theorem Inv.laid {a:Addr} {o:HO} {t':Nat} (I:Inv X pins σ H s) (k:∀ b u,s.heap.get? b=some u→h'.get? b=some u) (hp:s.heap.objs.size≤a) (new:ObjOk X.prog X.w (upd H a o) h' a o) :
  Inv X pins σ (upd H a o) { s with heap:=h',toks:=t' }:=I.un (Un.laid k hp (I.hok.fresh hp)) (I.hok.laid k hp new)
theorem Inv.write {x e:Addr} {o:HO} {t':Nat} (I:Inv X pins σ H s) (mu:Mut (H x)) (he:e=x∨H e=some (.own x)) (k:∀ b u,b≠e→s.heap.get? b=some u→h'.get? b=some u) (heo:∃ u,h'.get? e=some u)
  (new:ObjOk X.prog X.w (upd H x o) h' x o):Inv X pins σ (upd H x o) { s with heap:=h',toks:=t' }:=I.un (Un.write mu he k heo) (I.hok.write mu he k heo new)
theorem Inv.pins_of {pins':List (Addr×Obj)} (I:Inv X pins σ H s) (h:∀ p∈pins',s.heap.get? p.1=some p.2∧H p.1=none∧p.1≠X.env.locals∧p.1∉X.fs∧∀ v,p.2.data≠.cell v):Inv X pins' σ H s:=
 ⟨I.ok,I.os,I.bare,I.base,I.loc,I.cell,I.free,I.freeC,fun p hp=>(List.mem_append.mp hp).elim (fun z=>I.pin p (List.mem_append_left _ z)) (h p),I.hok,I.len⟩
theorem Z7c {N:List Str} (hN:N.Nodup) {i j:Nat} {x:Str} (a:N[i]?=some x) (b:N[j]?=some x):i=j:=by
 obtain ⟨h1,e1⟩:=List.getElem?_eq_some_iff.mp a
 obtain ⟨h2,e2⟩:=List.getElem?_eq_some_iff.mp b
 exact (List.getElem_inj hN).mp (e1.trans e2.symm)
theorem Z5Y {M:Model} {A:Around} {E:Value→Shared→Prop} {i:Nat} {x:Str} {v:V} {u:Value} {Q:Unit→Shared→Prop} (I:Inv X pins σ H s) (hN:X.N.Nodup) (hi:X.N[i]?=some x) (hx:Loc X.env.scope x) (r:RelV v u)
  (h:∀ s',Inv X pins (σ.set i (some v)) H s'→(∃ a,Heap.SameBut a s.heap s'.heap∧(a=X.env.locals∨X.env.cells.lookup x=some a))→Q () s') (hf:X.fn x=true∨X.env.scope.names.lookup x=some .local:=by first | exact .inl rfl | exact .inr rfl | assumption):wpAny M A (storeName X.env x u) Q E s:=by
 obtain ⟨m,hn,hl⟩:=id I.loc
 have hcls:(X.env.scope.kind == .class || (X.env.scope.kind == .module&&X.env.locals != X.env.globals))=false:=by rw [I.ok.kind]; rfl
 have hiσ:i < σ.length:=by rw [I.len]; exact (List.getElem?_eq_some_iff.mp hi).1
 have cne:=I.cne
 have tracked:∀ {a:Addr} {h':Heap},(∃ o,s.heap.get? a=some o∧H a=none)→Heap.SameBut a s.heap h'→HOk X.prog X.w H h':=fun {a h'} ha hs b ob e=>by
  obtain ⟨_,_,hfree⟩:=ha
  refine (I.hok b ob e).stay (fun c w' hc q=>(hs.2 c ?_).trans q) (fun _ q=>q) fun _ _ q=>q
  rintro rfl
  rcases hc with rfl | hc
  ·rw [hfree] at e; cases e
  ·rw [hfree] at hc; cases hc
 rcases hx with hk | hk
 ·refine wpAny_storeName_local hk hn (fun h' hn' hs=>?_) hcls
  obtain ⟨oL,_,_,hoL,_⟩:=id hn
  refine h _ ⟨I.ok,I.os,I.bare,⟨fun b o e n hb hx=>?_,fun b o e n hb hx=>?_,I.base.free,fun b o e hx=>?_,I.base.tups,I.base.frzs,I.base.tbls⟩,⟨_,hn',fun j y v' e1 e2 e3=>?_⟩,fun y c e=>?_,I.free,I.freeC,fun p hp=>?_,tracked ⟨oL,hoL,I.free⟩ hs,by simpa using I.len⟩ ⟨_,hs,.inl rfl⟩
  ·exact (hs.2 b (Nat.ne_of_lt (Nat.lt_of_lt_of_le (Heap.lt_size e) I.ok.above))).trans (I.base.keep b o e n hb hx)
  ·obtain ⟨sl,e1⟩:=I.base.slot b o e n hb hx
   exact ⟨sl,(hs.2 b (Nat.ne_of_lt (Nat.lt_of_lt_of_le (Heap.lt_size e) I.ok.above))).trans e1⟩
  ·obtain ⟨o',e1⟩:=I.base.there b o e hx
   exact ⟨o',(hs.2 b (Nat.ne_of_lt (Nat.lt_of_lt_of_le (Heap.lt_size e) I.ok.above))).trans e1⟩
  ·by_cases hj:j=i
   ·subst hj
    rw [hi] at e1; cases e1
    rw [List.getElem?_set_self hiσ] at e2
    cases e2
    exact ⟨u,r,.inl ⟨hk,by simp⟩⟩
   ·rw [List.getElem?_set_ne (Ne.symm hj)] at e2
    obtain ⟨u',r',q⟩:=hl j y v' e1 e2 e3
    refine ⟨u',r',?_⟩
    rcases q with ⟨k,e⟩ | ⟨k,c,e,z⟩
    ·refine .inl ⟨k,?_⟩
     have:y≠x:=fun e=>hj (Z7c hN e1 (e▸hi))
     simp [this,e]
    ·exact .inr ⟨k,c,e,z.sameBut hs (cne y c e)⟩
  ·obtain ⟨w',z⟩:=I.cell y c e
   exact ⟨w',z.sameBut hs (cne y c e)⟩
  ·obtain ⟨e,n,ne,nf,d⟩:=I.pin p hp
   exact ⟨(hs.2 p.1 ne).trans e,n,ne,nf,d⟩
 ·have hfn:X.fn x=true:=by
   rcases hf with z | z
   ·exact z
   ·rw [z] at hk; cases hk
  obtain ⟨c,hc⟩:=I.ok.has x (.inl hk)
  obtain ⟨w',z⟩:=I.cell x c hc
  refine wpAny_storeName_cell I.ok.kind hk hc z (fun h' hc' hs=>?_)
  obtain ⟨oc,hoc,hocd⟩:=id z
  refine h { s with heap:=h' } ⟨I.ok,I.os,I.bare,⟨fun b o e n hb hx=>?_,fun b o e n hb hx=>?_,I.base.free,fun b o e hx=>?_,I.base.tups,I.base.frzs,I.base.tbls⟩,⟨m,hn.sameBut hs (Ne.symm (cne x c hc)),fun j y v' e1 e2 e3=>?_⟩,fun y c' e=>?_,I.free,I.freeC,fun p hp=>?_,tracked ⟨oc,hoc,I.freeC x c hc⟩ hs,by simpa using I.len⟩ ⟨c,hs,.inr hc⟩
  ·exact (hs.2 b (Nat.ne_of_lt (Nat.lt_of_lt_of_le (Heap.lt_size e) (I.ok.cab x c hfn hc)))).trans (I.base.keep b o e n hb hx)
  ·obtain ⟨sl,e1⟩:=I.base.slot b o e n hb hx
   exact ⟨sl,(hs.2 b (Nat.ne_of_lt (Nat.lt_of_lt_of_le (Heap.lt_size e) (I.ok.cab x c hfn hc)))).trans e1⟩
  ·obtain ⟨o',e1⟩:=I.base.there b o e hx
   exact ⟨o',(hs.2 b (Nat.ne_of_lt (Nat.lt_of_lt_of_le (Heap.lt_size e) (I.ok.cab x c hfn hc)))).trans e1⟩
  ·by_cases hj:j=i
   ·subst hj
    rw [hi] at e1; cases e1
    rw [List.getElem?_set_self hiσ] at e2
    cases e2
    exact ⟨u,r,.inr ⟨.inl hk,c,hc,hc'⟩⟩
   ·rw [List.getElem?_set_ne (Ne.symm hj)] at e2
    obtain ⟨u',r',q⟩:=hl j y v' e1 e2 e3
    refine ⟨u',r',?_⟩
    rcases q with q | ⟨k,c',e,z'⟩
    ·exact .inl q
    ·refine .inr ⟨k,c',e,z'.sameBut hs ?_⟩
     rintro rfl
     exact hj (Z7c hN e1 (I.ok.inj _ _ _ e hc▸hi))
  ·by_cases hcc:c'=c
   ·subst hcc; exact ⟨_,hc'⟩
   ·obtain ⟨w2,z2⟩:=I.cell y c' e
    exact ⟨w2,z2.sameBut hs hcc⟩
  ·obtain ⟨e,n,ne,nf,d⟩:=I.pin p hp
   refine ⟨(hs.2 p.1 ?_).trans e,n,ne,nf,d⟩
   intro q
   rw [q,hoc] at e
   have q':oc=p.2:=Option.some.inj e
   exact d w' (by rw [← q']; exact hocd)
theorem Z6I {M:Model} {A:Around} {E:Value→Shared→Prop} {i:Nat} {x:Str} {v:V} {u:Value} {Q:Unit→Shared→Prop} (I:Inv X pins σ H s) (hN:X.N.Nodup) (hi:X.N[i]?=some x) (hx:Loc X.env.scope x) (r:RelV v u)
  (h:∀ s',Inv X pins (σ.set i (some v)) H s'→Q () s') (hf:X.fn x=true∨X.env.scope.names.lookup x=some .local:=by first | exact .inl rfl | exact .inr rfl | assumption):wpAny M A (storeName X.env x u) Q E s:=
 Z5Y I hN hi hx r (fun s' I' _=>h s' I') hf
end
abbrev XK:=Value→Option Addr→Hp→Prop
abbrev St:=List (Option V)
abbrev VK:=V→Hp→Prop
abbrev TE:=St→Hp→VK→Prop
abbrev TT:=St→Hp→(Bool→Hp→Prop)→Prop
abbrev TA:=St→Hp→(List V→Hp→Prop)→Prop
structure Ends where
 nx:St→Hp→Prop
 rt:VK
 bk:St→Hp→Prop:=fun _ _=>False
 ct:St→Hp→Prop:=fun _ _=>False
abbrev TS:=Ends→St→Hp→Prop
def EP (X:Cx) (pins:List (Addr×Obj)) (σ:St) (Q:VK) (u:Value) (s':Shared):Prop:=∃ v H',Inv X pins σ H' s'∧RelV v u∧Q v H'
def TP (X:Cx) (pins:List (Addr×Obj)) (σ:St) (Q:Bool→Hp→Prop) (b:Bool) (s':Shared):Prop:=∃ H',Inv X pins σ H' s'∧Q b H'
def AP (X:Cx) (pins:List (Addr×Obj)) (σ:St) (Q:List V→Hp→Prop) (us:List Value) (s':Shared):Prop:=∃ vs H',Inv X pins σ H' s'∧Vals vs us∧Q vs H'
def SP (X:Cx) (pins:List (Addr×Obj)) (D:Ends) (f:Flow) (s':Shared):Prop:=
 match f with
 | .next=>∃ σ' H',Inv X pins σ' H' s'∧D.nx σ' H'
 | .brk=>∃ σ' H',Inv X pins σ' H' s'∧D.bk σ' H'
 | .cont=>∃ σ' H',Inv X pins σ' H' s'∧D.ct σ' H'
 | .ret u=>∃ v σ' H',Inv X pins σ' H' s'∧RelV v u∧D.rt v H'
def PE (X:Cx) (e:Expr) (t:TE):Prop:=
 ∀ (pins:List (Addr×Obj)) (s:Shared) (σ:St) (H:Hp) (Q:VK),Inv X pins σ H s→t σ H Q→wpAny (model X.prog X.w) X.A (eval e X.env) (EP X pins σ Q) X.xe s
def PT (X:Cx) (e:Expr) (t:TT):Prop:=
 ∀ (pins:List (Addr×Obj)) (s:Shared) (σ:St) (H:Hp) (Q:Bool→Hp→Prop),Inv X pins σ H s→t σ H Q→wpAny (model X.prog X.w) X.A (isTrue e X.env (eval e X.env)) (TP X pins σ Q) X.xe s
def PW (X:Cx) (e:Expr) (t:TT):Prop:=
 ∀ (whole:Sem Value) (pins:List (Addr×Obj)) (s:Shared) (σ:St) (H:Hp) (Q:Bool→Hp→Prop),Inv X pins σ H s→t σ H Q→wpAny (model X.prog X.w) X.A (isTrue e X.env whole) (TP X pins σ Q) X.xe s
theorem PW.pt {X:Cx} {e:Expr} {t:TT} (h:PW X e t):PT X e t:=h _
def PA (X:Cx) (es:List Expr) (t:TA):Prop:=
 ∀ (pos:Pos) (pins:List (Addr×Obj)) (s:Shared) (σ:St) (H:Hp) (Q:List V→Hp→Prop),Inv X pins σ H s→t σ H Q→wpAny (model X.prog X.w) X.A (spliced (backTo pos (starEach es X.env))) (AP X pins σ Q) X.xe s
def PS (X:Cx) (st:Stmt) (t:TS):Prop:=
 ∀ (pins:List (Addr×Obj)) (s:Shared) (σ:St) (H:Hp) (D:Ends),Inv X pins σ H s→t D σ H→wpAny (model X.prog X.w) X.A (exec st X.env) (SP X pins D) X.xe s
def PSs (X:Cx) (st:List Stmt) (t:TS):Prop:=
 ∀ (pins:List (Addr×Obj)) (s:Shared) (σ:St) (H:Hp) (D:Ends),Inv X pins σ H s→t D σ H→wpAny (model X.prog X.w) X.A (execs st X.env) (SP X pins D) X.xe s
theorem thn {α:Type} {t:Sem α} {Q Q':α→Shared→Prop} {M:Model} {A:Around} {E:Value→Shared→Prop} {s:Shared} (h:wpAny M A t Q E s) (hQ:∀ a s,Q a s→Q' a s):wpAny M A t Q' E s:=wpAny_mono h hQ fun _ _ x=>x
end L2
namespace L2
open PySem PySem.Spec PyProof.Rows
section
variable {X:Cx}
theorem bin {a b:Expr} {ta tb:TE} (ha:PE X a ta) (hb:PE X b tb) {pins:List (Addr×Obj)} {s:Shared} {σ:St} {H:Hp} {R:V→V→Hp→Prop} (I:Inv X pins σ H s) (h:ta σ H fun x H1=>tb σ H1 fun y H2=>R x y H2)
  {α:Type} {Q:α→Shared→Prop} {f:Value→Value→Sem α}
  (hf:∀ v u s2 x y H2,Inv X pins σ H2 s2→RelV x v→RelV y u→R x y H2→wpAny (model X.prog X.w) X.A (f v u) Q X.xe s2) :
  wpAny (model X.prog X.w) X.A (eval a X.env) (fun v s₁=>wpAny (model X.prog X.w) X.A (eval b X.env) (fun u s₂=>wpAny (model X.prog X.w) X.A (f v u) Q X.xe s₂) X.xe s₁) X.xe s:=by
 refine thn (ha pins s σ H _ I h) fun v s1 ⟨x,H1,I1,r1,q1⟩=>?_
 refine thn (hb pins s1 σ H1 _ I1 q1) fun u s2 ⟨y,H2,I2,r2,q2⟩=>?_
 exact hf v u s2 x y H2 I2 r1 r2 q2
def tVar (i:Nat):TE:=fun σ H Q=>∃ v,σ[i]?=some (some v)∧Q v H
def tC (v:V):TE:=fun _ H Q=>Q v H
theorem J1w {i:Nat} {x:Str} {pos:Pos} (hN:X.N[i]?=some x) (hv:Vis X.env.scope x) (hd:(x == ("__debug__":Str))=false:=by decide) (hcd:(x == ("__classdict__":Str))=false:=by decide):PE X (.Name x pos) (tVar i):=by
 intro pins s σ H Q I h
 obtain ⟨v,e,h⟩:=h
 obtain ⟨m,hn,hl⟩:=I.loc
 obtain ⟨u,r,l⟩:=hl i x v hN e hv
 have fin:EP X pins σ Q u s:=⟨v,H,I,r,h⟩
 rcases l with ⟨hk,hm⟩ | ⟨hk,c,hc,hcell⟩
 ·exact wpAny_Name (wpAny_loadName_local I.ok.kind hk hn hm fin) hd
 ·rcases hk with hk | hk
  ·exact wpAny_Name (wpAny_loadName_cell I.ok.kind hk hc hcell fin) hd
  ·exact wpAny_Name (wpAny_loadName_free I.ok.kind hk hc hcell fin hcd) hd
theorem Z0c {i j pos}:PE X (.Constant (.int i) j pos) (tC (.int i)):=fun _ _ _ H _ I h=>wpAny_Constant_int ⟨.int i,H,I.tok _,⟨_,rfl⟩,h⟩
theorem Z5g {b j pos}:PE X (.Constant (.bool b) j pos) (tC (.bl b)):=fun _ _ _ H _ I h=>Constant_bool ⟨.bl b,H,I,rfl,h⟩
theorem Z1E {j pos}:PE X (.Constant .none j pos) (tC .non):=fun _ _ _ H _ I h=>Constant_none ⟨.non,H,I,rfl,h⟩
theorem Z0g {x j pos}:PE X (.Constant (.str x) j pos) (tC (.str x)):=fun _ _ _ H _ I h=>Calls.Constant_str ⟨.str x,H,I.tok _,⟨_,rfl⟩,h⟩
def Gl (X:Cx) (x:Str):Prop:=X.env.kindOf x=some .globalImplicit
theorem Z5p {E:Value→Shared→Prop} {pins:List (Addr×Obj)} {s:Shared} {σ:St} {H:Hp} {x:Str} {u:Value} {pos:Pos} {Q:Value→Shared→Prop} (I:Inv X pins σ H s) (hg:Gl X x) (hm:X.mg x=some u) (h:Q u s)
  (hd:(x == ("__debug__":Str))=false:=by decide):wpAny (model X.prog X.w) X.A (eval (.Name x pos) X.env) Q E s:=
 Calls.Name_function_global I.ok.kind hg (Calls.loadGlobal_global (by rw [I.ok.glob]; exact I.mod.glob.keeps I.bk) hm h) hd
theorem Z6J {E:Value→Shared→Prop} {pins:List (Addr×Obj)} {s:Shared} {σ:St} {H:Hp} {x:Str} {u:Value} {pos:Pos} {Q:Value→Shared→Prop} (I:Inv X pins σ H s) (hg:Gl X x) (hm:X.mg x=none) (hv:bootBuiltins x=some u) (h:Q u s)
  (hn:x≠"__name__":=by decide) (hd:(x == ("__debug__":Str))=false:=by decide):wpAny (model X.prog X.w) X.A (eval (.Name x pos) X.env) Q E s:=by
 obtain ⟨mb,h1,h2⟩:=I.mod.blt
 exact Calls.Name_function_global I.ok.kind hg (Calls.loadGlobal_builtin (by rw [I.ok.glob]; exact I.mod.glob.keeps I.bk) hm (by rw [I.ok.blt]; exact h1.keeps I.bk) ((h2 x hn).trans hv) h) hd
theorem J3d {x:Str} {v:V} {u:Value} {pos:Pos} (hg:Gl X x) (hm:X.mg x=some u) (r:RelV v u) (hd:(x == ("__debug__":Str))=false:=by decide):PE X (.Name x pos) (tC v):=
 fun _ _ _ H _ I h=>Z5p I hg hm ⟨v,H,I,r,h⟩ hd
theorem J2c {x:Str} {v:V} {u:Value} {pos:Pos} (hg:Gl X x) (hm:X.mg x=none) (hv:bootBuiltins x=some u) (r:RelV v u) (hn:x≠"__name__":=by decide) (hd:(x == ("__debug__":Str))=false:=by decide):PE X (.Name x pos) (tC v):=
 fun _ _ _ H _ I h=>Z6J I hg hm hv ⟨v,H,I,r,h⟩ hn hd
variable {a b:Expr} {ta tb:TE} {pos:Pos}
def PC (X:Cx) (op:CmpOp) (a b:Expr) (t:TE):Prop:=
 ∀ (pins:List (Addr×Obj)) (s:Shared) (σ:St) (H:Hp) (Q:VK),Inv X pins σ H s→t σ H Q →
  wpAny (model X.prog X.w) X.A (eval a X.env) (fun v s₁=>wpAny (model X.prog X.w) X.A (eval b X.env) (fun u s₂=>wpAny (model X.prog X.w) X.A (compareOp op v u) (EP X pins σ Q) X.xe s₂) X.xe s₁) X.xe s
theorem J0P (b:Expr) {op:CmpOp} (h:op≠.In) (h2:op≠.NotIn):behindInMarks op b=false:=by
 have e1:(op == CmpOp.In)=false:=by cases op <;> first | rfl | exact absurd rfl h
 have e2:(op == CmpOp.NotIn)=false:=by cases op <;> first | rfl | exact absurd rfl h2
 cases b <;> simp [behindInMarks,e1,e2]
def tB (t:TE):TT:=fun σ H Q=>t σ H fun x H1=>∃ c,x=.bl c∧Q c H1
theorem J4I {op:CmpOp} {t:TE} (h:PC X op a b t) (h1:behindInMarks op b=false:=by first | exact J0P _ (by decide) (by decide) | rfl):PT X (.Compare a [op] [b] pos) (tB t):=by
 intro pins s σ H Q I hw
 refine wpAny_isTrue_Compare1 (thn (h pins s σ H _ I hw) fun v s1 h1=>thn h1 fun u s2 h2=>thn h2 fun c s3 ⟨x,H1,I1,r1,q1⟩=>?_) h1
 obtain ⟨d,rfl,q⟩:=q1
 cases r1
 exact wpAny_truthy_bool ⟨H1,I1,q⟩
theorem Z3d {e:Expr} {t:TE} (h:PE X e t) (he:∀ whole,isTrue e X.env whole=(do let v ← whole; standAt e.pos; holding [v] (truthy v)):=by intro _; rfl):PT X e (tB t):=by
 intro pins s σ H Q I hw
 refine isTrue_plain (thn (h pins s σ H _ I hw) fun v s1 ⟨x,H1,I1,r1,q1⟩=>?_) (he _)
 obtain ⟨d,rfl,q⟩:=q1
 cases r1
 exact wpAny_truthy_bool ⟨H1,I1,q⟩
variable {tA tB':TT} {rest:List Expr}
def tAnd (t u:TT):TT:=fun σ H Q=>t σ H fun c H1=>if c=true then u σ H1 Q else Q false H1
def tOr (t u:TT):TT:=fun σ H Q=>t σ H fun c H1=>if c=true then Q true H1 else u σ H1 Q
def tNot (t:TT):TT:=fun σ H Q=>t σ H fun c H1=>Q (!c) H1
theorem Z2Q (ha:PT X a tA):PW X (.BoolOp .And [a] pos) tA:=by
 intro wh pins s σ H Q I h
 refine isTrue_and (thn (ha pins s σ H Q I h) fun c s1 e=>?_)
 cases c with
 | true=>exact isTrue_and_nil e
 | false=>exact e
theorem J1S (ha:PT X a tA):PW X (.BoolOp .Or [a] pos) tA:=by
 intro wh pins s σ H Q I h
 refine isTrue_or (thn (ha pins s σ H Q I h) fun c s1 e=>?_)
 cases c with
 | false=>exact isTrue_or_nil e
 | true=>exact e
theorem Z3M (ha:PT X a tA) (hb:PW X (.BoolOp .And (b::rest) pos) tB'):PW X (.BoolOp .And (a::b::rest) pos) (tAnd tA tB'):=by
 intro wh pins s σ H Q I h
 refine isTrue_and (thn (ha pins s σ H _ I h) fun c s1 ⟨H1,I1,q1⟩=>?_)
 cases c with
 | true=>exact hb wh pins s1 σ H1 Q I1 q1
 | false=>exact ⟨H1,I1,q1⟩
theorem J3K (ha:PT X a tA) (hb:PW X (.BoolOp .Or (b::rest) pos) tB'):PW X (.BoolOp .Or (a::b::rest) pos) (tOr tA tB'):=by
 intro wh pins s σ H Q I h
 refine isTrue_or (thn (ha pins s σ H _ I h) fun c s1 ⟨H1,I1,q1⟩=>?_)
 cases c with
 | true=>exact ⟨H1,I1,q1⟩
 | false=>exact hb wh pins s1 σ H1 Q I1 q1
theorem Z8W (ha:PT X a tA):PT X (.UnaryOp .Not a pos) (tNot tA):=by
 intro pins s σ H Q I h
 exact isTrue_not (ha pins s σ H (fun c H1=>Q (!c) H1) I h)
def J5I (ta tb:TE):TE:=fun σ H Q=>ta σ H fun x H1=>∃ c,x=.bl c∧if c=true then tb σ H1 Q else Q (.bl false) H1
def tOrV (ta tb:TE):TE:=fun σ H Q=>ta σ H fun x H1=>∃ c,x=.bl c∧if c=true then Q (.bl true) H1 else tb σ H1 Q
def J4o (ta:TE):TE:=fun σ H Q=>ta σ H fun x H1=>∃ c,x=.bl c∧Q (.bl (!c)) H1
theorem J3Z {op} {t:TE} (h:PE X a t):PE X (.BoolOp op [a] pos) t:=fun pins s σ H Q I hw=>BoolOp_one (h pins s σ H Q I hw)
theorem J6q (ha:PE X a ta) (hb:PE X (.BoolOp .Or (b::rest) pos) tb):PE X (.BoolOp .Or (a::b::rest) pos) (tOrV ta tb):=by
 intro pins s σ H Q I h
 refine BoolOp_or (thn (ha pins s σ H _ I h) fun v s1 ⟨x,H1,I1,r1,q1⟩=>?_)
 obtain ⟨c,rfl,q1⟩:=q1
 cases r1
 refine wpAny_truthy_bool ?_
 cases c with
 | false=>exact hb pins s1 σ H1 Q I1 q1
 | true=>exact ⟨.bl true,H1,I1,rfl,q1⟩
theorem J4j (ha:PE X a ta):PE X (.UnaryOp .Not a pos) (J4o ta):=by
 intro pins s σ H Q I h
 refine UnaryOp_ (thn (ha pins s σ H _ I h) fun v s1 ⟨x,H1,I1,r1,q1⟩=>?_)
 obtain ⟨c,rfl,q1⟩:=q1
 cases r1
 exact not_of (wpAny_truthy_bool ⟨.bl (!c),H1,I1,rfl,q1⟩)
def tIf (t:TT) (ta tb:TE):TE:=fun σ H Q=>t σ H fun c H1=>if c=true then ta σ H1 Q else tb σ H1 Q
theorem Z2S {c:Expr} (hc:PT X c tA) (ha:PE X a ta) (hb:PE X b tb):PE X (.IfExp c a b pos) (tIf tA ta tb):=by
 intro pins s σ H Q I h
 refine wpAny_IfExp (thn (hc pins s σ H _ I h) fun d s1 ⟨H1,I1,q1⟩=>?_)
 cases d with
 | true=>exact ha pins s1 σ H1 Q I1 q1
 | false=>exact hb pins s1 σ H1 Q I1 q1
end
end L2
namespace L2
open PySem PySem.Spec PyProof.Rows
def SqL (K:W.Frag) (H:Hp) (a:Addr) (xs:List V):Prop:=
 Rd H a (.lst xs) ∨
  ∃ (o:Obj) (its:Array Value) (n:Nat),K.lookup a=some o∧o.cls=.type "list"∧o.dict=none∧o.data=.seq its n∧its.size≤sizeLine∧Vals xs its.toList
def SqT (K:W.Frag) (H:Hp) (a:Addr) (xs:List V):Prop:=
 Rd H a (.tup xs) ∨
  ∃ (o:Obj) (its:Array Value) (n:Nat),K.lookup a=some o∧(o.cls=.type "tuple"∧o.dict=none)∧o.data=.seq its n∧its.size≤sizeLine∧Vals xs its.toList
def absV:Value→Option V
 | .none=>some .non
 | .bool b=>some (.bl b)
 | .int i _=>some (.int i)
 | .str x _=>some (.str x)
 | .bytes b _=>some (.byt b)
 | .float b _=>some (.flt b)
 | .ref a=>some (.ref a)
 | .type n=>some (.ty n)
 | _=>none
theorem RelV.abs {x:V} {u:Value} (r:RelV x u):absV u=some x:=by
 cases x with
 | non=>cases r; rfl
 | bl _=>cases r; rfl
 | int _=>obtain ⟨t,rfl⟩:=r; rfl
 | str _=>obtain ⟨t,rfl⟩:=r; rfl
 | byt _=>obtain ⟨t,rfl⟩:=r; rfl
 | flt _=>obtain ⟨t,rfl⟩:=r; rfl
 | ref _=>cases r; rfl
 | ty _=>cases r; rfl
theorem RelV.inj {x y:V} {u:Value} (r:RelV x u) (q:RelV y u):x=y:=Option.some.inj (r.abs.symm.trans q.abs)
theorem Vals.inj:∀ {xs ys:List V} {us:List Value},Vals xs us→Vals ys us→xs=ys
 | _,_,_,.nil,.nil=>rfl
 | _,_,_,.cons r t,.cons r' t'=>by rw [r.inj r',Vals.inj t t']
section
variable {X:Cx} {pins:List (Addr×Obj)} {σ:St} {H:Hp} {s:Shared} {a:Addr} {xs ys:List V}
theorem SqL.of {K:W.Frag} (h:H a=some (.lst xs)):SqL K H a xs:=.inl (.inl h)
theorem SqT.of {K:W.Frag} (h:H a=some (.tup xs)):SqT K H a xs:=.inl (.inl h)
theorem Inv.list (I:Inv X pins σ H s) (h:SqL X.K H a xs):∃ its:List Value,Vals xs its∧PlainL s.heap a its.toArray∧xs.length≤sizeLine:=by
 rcases h with h | ⟨o,its,n,hk,hc,hd,hs,hz,r⟩
 ·obtain ⟨z,its,n,r,e⟩:=h.ok I.hok
  exact ⟨its,r,⟨_,n,e,rfl,rfl,rfl⟩,z⟩
 ·refine ⟨its.toList,r,⟨o,n,I.kIn a o hk,hc,hd,by simpa using hs⟩,?_⟩
  have e:=r.length
  simp only [Array.length_toList] at e
  omega
theorem Inv.tuple (I:Inv X pins σ H s) (h:SqT X.K H a xs):∃ its:List Value,Vals xs its∧IsTup s.heap a its.toArray∧xs.length≤sizeLine:=by
 rcases h with h | ⟨o,its,n,hk,hc,hs,hz,r⟩
 ·obtain ⟨z,its,r,p⟩:=h.ok I.hok
  exact ⟨its,r,p,z.1⟩
 ·refine ⟨its.toList,r,⟨o,I.kIn a o hk,hc.1,n,by simpa using hs⟩,?_⟩
  have e:=r.length
  simp only [Array.length_toList] at e
  omega
theorem Inv.list_inj (I:Inv X pins σ H s) (h:SqL X.K H a xs) (h':SqL X.K H a ys):xs=ys:=by
 obtain ⟨its,r,⟨o,n,e,_,_,d⟩,_⟩:=I.list h
 obtain ⟨its',r',⟨o',n',e',_,_,d'⟩,_⟩:=I.list h'
 rw [e] at e'; cases e'
 rw [d] at d'
 injection d' with d1 _
 have:its=its':=by simpa using congrArg Array.toList d1
 subst this
 exact r.inj r'
end
abbrev Cx.wish (X:Cx) (E:Value→Shared→Prop):Cx:={ X with xe:=E }
abbrev Cx.nox (X:Cx):Cx:=X.wish fun _ _=>False
theorem Cx.Ok.wish {X:Cx} (ok:X.Ok) (E:Value→Shared→Prop):(X.wish E).Ok:=
 ⟨ok.mod,ok.kind,ok.glob,ok.blt,ok.above,ok.inj,ok.has,ok.cab,ok.hd,ok.frames,ok.stk,ok.exf,ok.bs,ok.bsz,ok.noex,ok.exfs,ok.funs,ok.frf⟩
theorem Cx.Ok.unwish {X:Cx} {E:Value→Shared→Prop} (ok:(X.wish E).Ok):X.Ok:=
 ⟨ok.mod,ok.kind,ok.glob,ok.blt,ok.above,ok.inj,ok.has,ok.cab,ok.hd,ok.frames,ok.stk,ok.exf,ok.bs,ok.bsz,ok.noex,ok.exfs,ok.funs,ok.frf⟩
section
variable {X:Cx} {pins:List (Addr×Obj)} {σ:St} {H:Hp} {s:Shared} {E:Value→Shared→Prop}
theorem Inv.wish (I:Inv X pins σ H s) (E:Value→Shared→Prop):Inv (X.wish E) pins σ H s:=⟨I.ok.wish E,I.os,I.bare,I.base,I.loc,I.cell,I.free,I.freeC,I.pin,I.hok,I.len⟩
theorem Inv.unwish (I:Inv (X.wish E) pins σ H s):Inv X pins σ H s:=⟨I.ok.unwish,I.os,I.bare,I.base,I.loc,I.cell,I.free,I.freeC,I.pin,I.hok,I.len⟩
theorem SP.unwish {D:Ends} {f:Flow} {s':Shared} (h:SP (X.wish E) pins D f s'):SP X pins D f s':=by
 cases f with
 | next=>obtain ⟨σ',H',I,q⟩:=h; exact ⟨σ',H',I.unwish,q⟩
 | brk=>obtain ⟨σ',H',I,q⟩:=h; exact ⟨σ',H',I.unwish,q⟩
 | cont=>obtain ⟨σ',H',I,q⟩:=h; exact ⟨σ',H',I.unwish,q⟩
 | ret u=>obtain ⟨v,σ',H',I,r,q⟩:=h; exact ⟨v,σ',H',I.unwish,r,q⟩
theorem PSs.nox {st:List Stmt} {t:TS} (h:PSs X.nox st t):PSs X st t:=fun pins s σ H D I hw=>
 wpAny_mono (h pins s σ H D (I.wish _) hw) (fun _ _ q=>q.unwish) fun _ _ z=>False.elim z
end
section
variable {X:Cx} {st:Stmt} {rest:List Stmt} {t u:TS} {e:Expr} {te:TE} {pos:Pos}
def J4w:TS:=fun D σ H=>D.nx σ H
def tSeq (t u:TS):TS:=fun D σ H=>t { D with nx:=u D } σ H
theorem Z0C:PSs X [] J4w:=fun _ _ σ H _ I h=>wpAny_execs_nil ⟨σ,H,I,h⟩
theorem Z0d (h1:PS X st t) (h2:PSs X rest u):PSs X (st::rest) (tSeq t u):=by
 intro pins s σ H D I h
 refine wpAny_execs_cons (thn (h1 pins s σ H { D with nx:=u D } I h) fun f s1 q=>?_)
 cases f with
 | next=>
  obtain ⟨σ',H',I',q⟩:=q
  exact h2 pins s1 σ' H' D I' q
 | ret v=>exact q
 | brk=>exact q
 | cont=>exact q
theorem Z0f (h1:PS X st t):PSs X [st] t:=by
 intro pins s σ H D I h
 refine wpAny_execs_cons (thn (h1 pins s σ H D I h) fun f s1 q=>?_)
 cases f with
 | next=>exact wpAny_execs_nil q
 | ret v=>exact q
 | brk=>exact q
 | cont=>exact q
def J4N:TS:=fun D σ H=>D.bk σ H
def J6j:TS:=fun D σ H=>D.ct σ H
theorem Inv.quiet {pins:List (Addr×Obj)} {σ:St} {H:Hp} {s:Shared} (I:Inv X pins σ H s):interactive X.env=false:=by simp [interactive,I.ok.kind]
def J3x (te:TE):TS:=fun D σ H=>te σ H fun _ H1=>D.nx σ H1
theorem Z0p (he:PE X e te) (hs:swapsWith e none pos.line X.env=pure false:=by rfl):PS X (.Expr e pos) (J3x te):=by
 intro pins s σ H D I h
 exact wpAny_Expr_any (thn (he pins s σ H _ I h) fun v s1 ⟨x,H1,I1,r1,q1⟩=>⟨σ,H1,I1,q1⟩) I.quiet hs
def tRet (te:TE):TS:=fun D σ H=>te σ H D.rt
theorem Z0y (he:PE X e te):PS X (.Return (some e) pos) (tRet te):=by
 intro pins s σ H D I h
 exact wpAny_Return_some (thn (he pins s σ H _ I h) fun v s1 ⟨x,H1,I1,r1,q1⟩=>⟨x,σ,H1,I1,r1,q1⟩)
def J4c:TS:=fun D _ H=>D.rt .non H
theorem Z6w:PS X (.Return none pos) J4c:=fun _ _ σ H _ I h=>wpAny_Return_none ⟨.non,σ,H,I,rfl,h⟩
def tIfS (c:TT) (t u:TS):TS:=fun D σ H=>c σ H fun b H1=>if b=true then t D σ H1 else u D σ H1
theorem Z0L {c:Expr} {a b:List Stmt} {tc:TT} (hc:PT X c tc) (ha:PSs X a t) (hb:PSs X b u):PS X (.If c a b pos) (tIfS tc t u):=by
 intro pins s σ H D I h
 refine wpAny_If (thn (hc pins s σ H _ I h) fun d s1 ⟨H1,I1,q1⟩=>?_)
 cases d with
 | true=>exact ha pins s1 σ H1 D I1 q1
 | false=>exact hb pins s1 σ H1 D I1 q1
def J4M:TS:=fun _ _ _=>False
end
abbrev TG:=V→St→Hp→(St→Hp→Prop)→Prop
abbrev TGs:=List V→St→Hp→(St→Hp→Prop)→Prop
def PG (X:Cx) (target:Expr) (t:TG):Prop:=
 ∀ (pins:List (Addr×Obj)) (s:Shared) (σ:St) (H:Hp) (v:V) (u:Value) (Q:St→Hp→Prop),Inv X pins σ H s→RelV v u→t v σ H Q →
  wpAny (model X.prog X.w) X.A (assign target X.env u) (fun _ s'=>∃ σ' H',Inv X pins σ' H' s'∧Q σ' H') X.xe s
def PGs (X:Cx) (ts:List Expr) (t:TGs):Prop:=
 ∀ (pins:List (Addr×Obj)) (s:Shared) (σ:St) (H:Hp) (vs:List V) (us:List Value) (Q:St→Hp→Prop),Inv X pins σ H s→Vals vs us→t vs σ H Q →
  wpAny (model X.prog X.w) X.A (assignInOrder ((assignEach ts X.env).map (·.2)) us) (fun _ s'=>∃ σ' H',Inv X pins σ' H' s'∧Q σ' H') X.xe s
abbrev TSet:=V→V→V→Hp→(Hp→Prop)→Prop
def PSet (X:Cx) (t:TSet):Prop:=
 ∀ (pins:List (Addr×Obj)) (s:Shared) (σ:St) (H:Hp) (o i v:V) (ov iv u:Value) (Q:Hp→Prop),Inv X pins σ H s→RelV o ov→RelV i iv→RelV v u→t o i v H Q →
  wpAny (model X.prog X.w) X.A (setItem ov iv u) (fun _ s'=>∃ H',Inv X pins σ H' s'∧Q H') X.xe s
abbrev TIp:=V→V→Hp→VK→Prop
section
variable {X:Cx} {pos:Pos}
def Z3A (i:Nat):TG:=fun v σ H Q=>Q (σ.set i (some v)) H
theorem Z0v {i:Nat} {x:Str} (hN:X.N.Nodup) (hi:X.N[i]?=some x) (hx:Loc X.env.scope x) (hf:X.fn x=true∨X.env.scope.names.lookup x=some .local:=by first | exact .inl rfl | exact .inr rfl | assumption):PG X (.Name x pos) (Z3A i):=by
 intro pins s σ H v u Q I r h
 exact wpAny_assign_Name (Z6I I hN hi hx r (fun s' I'=>⟨_,H,I',h⟩) hf)
def gNil:TGs:=fun vs σ H Q=>vs=[]∧Q σ H
def J3P (t:TG) (u:TGs):TGs:=fun vs σ H Q=>∃ v r,vs=v::r∧t v σ H fun σ' H'=>u r σ' H' Q
theorem Z1Y:PGs X [] gNil:=by
 intro pins s σ H vs us Q I r h
 obtain ⟨e,h⟩:=h
 subst e
 cases r
 exact assignInOrder_nil ⟨σ,H,I,h⟩
theorem J1d {e:Expr} {es:List Expr} {t:TG} {u:TGs} (h1:PG X e t) (h2:PGs X es u)
  (hs:(assignEach (e::es) X.env).map (·.2)=assign e X.env::(assignEach es X.env).map (·.2):=by rfl):PGs X (e::es) (J3P t u):=by
 intro pins s σ H vs us Q I r h
 obtain ⟨v,vr,e1,h⟩:=h
 subst e1
 cases r with
 | cons r rr=>
  rw [hs]
  refine assignInOrder_cons (thn (h1 pins s σ H _ _ _ I r h) fun _ s1 ⟨σ1,H1,I1,q1⟩=>?_)
  exact h2 pins s1 σ1 H1 _ _ Q I1 rr q1
def gTup (K:W.Frag) (n:Nat) (t:TGs):TG:=fun v σ H Q=>∃ a xs,v=.ref a∧SqT K H a xs∧xs.length=n∧t xs σ H Q
theorem J3M {es:List Expr} {k:Nat} {t:TGs} {n:Nat} (hc:X.calm=true) (h:PGs X es t)
  (hn:(assignEach es X.env).length=n:=by rfl) (hst:(assignEach es X.env).findIdx? (·.1)=none:=by rfl):PG X (.Tuple es k pos) (gTup X.K n t):=by
 intro pins s σ H v u Q I r hw
 obtain ⟨a,xs,e1,hq,hl,hw⟩:=hw
 subst e1
 cases r
 obtain ⟨its,rv,ht,hz⟩:=I.tuple hq
 refine assign_Tuple_tuple (I.ok.hd hc) ht (by simp [hn,← hl,rv.length]) hst fun h' hx=>?_
 have I1:Inv X pins σ H { s with heap:=h' }:=I.kept (t':=s.toks) fun b o e=>hx b o (Nat.ne_of_lt (Heap.lt_size e)) e
 exact h pins _ σ H xs _ Q I1 (by simpa using rv) hw
def gSub (to ti:TE) (t:TSet):TG:=fun v σ H Q=>to σ H fun o H1=>ti σ H1 fun i H2=>t o i v H2 fun H3=>Q σ H3
theorem Z3t {o i:Expr} {to ti:TE} {t:TSet} (ho:PE X o to) (hi:PE X i ti) (hs:PSet X t)
  (ha:∀ v,assign (.Subscript o i pos) X.env v=(do
   let ov ← holding [v] (eval o X.env)
   let iv ← holding [v,ov] (eval i X.env)
   standAt pos
   holding [v,ov,iv] (setItem ov iv v)
   release [v,ov,iv] []):=by intro _; rfl):PG X (.Subscript o i pos) (gSub to ti t):=by
 intro pins s σ H v u Q I r h
 rw [ha]
 refine wpAny_bind (wpAny_holding (thn (ho pins s σ H _ I h) fun ov s1 ⟨x,H1,I1,r1,q1⟩=>?_))
 refine wpAny_bind (wpAny_holding (thn (hi pins s1 σ H1 _ I1 q1) fun iv s2 ⟨y,H2,I2,r2,q2⟩=>?_))
 refine wpAny_bind (wpAny_standAt (wpAny_bind (wpAny_holding (thn (hs pins s2 σ H2 x y v ov iv u _ I2 r1 r2 r q2) fun _ s3 ⟨H3,I3,q3⟩=>?_))))
 exact wpAny_release ⟨σ,H3,I3,q3⟩
def tAsg (te:TE) (g:TG):TS:=fun D σ H=>te σ H fun x H1=>g x σ H1 D.nx
theorem Z1x {tg e:Expr} {te:TE} {g:TG} (he:PE X e te) (hg:PG X tg g) (hs:swapsWithSole [tg] e pos.line X.env=pure false:=by rfl) (hw:swappedStores [tg] e X.env=pure none:=by rfl)
  (h1:(assignEach [tg] X.env).map (·.2)=[assign tg X.env]:=by rfl):PS X (.Assign [tg] e pos) (tAsg te g):=by
 intro pins s σ H D I h
 refine wpAny_Assign_stores (thn (he pins s σ H _ I h) fun v s1 ⟨x,H1,I1,r1,q1⟩=>?_) hs hw
 rw [h1]
 exact thn (hg pins s1 σ H1 x v _ I1 r1 q1) fun _ s2 q=>q
theorem Z0I {i:Nat} {x:Str} {e:Expr} {te:TE} {pos':Pos} (hN:X.N.Nodup) (hi:X.N[i]?=some x) (hx:Loc X.env.scope x) (he:PE X e te) (hs:swapsWith e (some (.Name x pos')) pos.line X.env=pure false:=by rfl) (hf:X.fn x=true∨X.env.scope.names.lookup x=some .local:=by first | exact .inl rfl | exact .inr rfl | assumption) :
  PS X (.Assign [.Name x pos'] e pos) (tAsg te (Z3A i)):=by
 intro pins s σ H D I h
 refine wpAny_Assign_Name (thn (he pins s σ H _ I h) fun v s1 ⟨y,H1,I1,r1,q1⟩=>?_) hs
 exact Z6I I1 hN hi hx r1 (fun s2 I2=>⟨_,H1,I2,q1⟩) hf
def tPar (i j:Nat) (ta:TA):TS:=fun D σ H=>ta σ H fun vs H1=>∃ v w,vs=[v,w]∧D.nx ((σ.set i (some v)).set j (some w)) H1
def tAug (i:Nat) (te:TE) (ti:TIp):TS:=fun D σ H=>∃ x,σ[i]?=some (some x)∧te σ H fun y H1=>ti x y H1 fun z H2=>D.nx (σ.set i (some z)) H2
def J6J (to ti te:TE) (tget:V→V→Hp→VK→Prop) (tip:TIp) (tset:TSet):TS:=fun D σ H=>to σ H fun o H1=>ti σ H1 fun i H2=>tget o i H2 fun x H3=>te σ H3 fun y H4=>tip x y H4 fun z H5=>tset o i z H5 fun H6=>D.nx σ H6
def ipI (f:Int→Int→Int):TIp:=fun x y H Q=>∃ i j,x=.int i∧y=.int j∧Q (.int (f i j)) H
end
section
variable {X:Cx} {pos:Pos}
def J3s (c:TT) (tb:TS):TS:=fun D σ H=>∃ W:Nat→St→Hp→Prop,(∃ m,W m σ H)∧∀ m σ H,W m σ H →
 c σ H fun b H1=>if b=true then ∃ N:St→Hp→Prop,(∀ σ' H',N σ' H'→∃ m',m' < m∧W m' σ' H')∧tb { D with nx:=N,ct:=N,bk:=D.nx } σ H1 else D.nx σ H1
theorem J1k {c:Expr} {body:List Stmt} {tc:TT} {tb:TS} (hp:PassesOwn (model X.prog X.w) X.A X.env X.xe) (hc:PT X c tc) (hb:PSs X body tb):PS X (.While c body [] pos) (J3s tc tb):=by
 intro pins s σ H D I h
 obtain ⟨W,⟨m0,w0⟩,turn⟩:=h
 refine wpAny_While (codeAny_whileLoop (fun n s'=>∃ σ' H',Inv X pins σ' H' s'∧W n σ' H') ?_ m0 ⟨σ,H,I,w0⟩)
 rintro n s1 ⟨σ1,H1,I1,w1⟩
 refine wpAny_passesOwn hp (thn (hc pins s1 σ1 H1 _ I1 (turn n σ1 H1 w1)) fun b s2 ⟨H2,I2,q2⟩=>?_)
 cases b with
 | true=>
  obtain ⟨N,hN,q2⟩:=q2
  rw [if_pos rfl]
  refine wpAny_passesOwn hp (thn (hb pins s2 σ1 H2 _ I2 q2) fun f s3 q3=>?_)
  cases f with
  | next=>
   obtain ⟨σ3,H3,I3,n3⟩:=q3
   obtain ⟨m',hm,w3⟩:=hN σ3 H3 n3
   exact ⟨m',hm,σ3,H3,I3,w3⟩
  | cont=>
   obtain ⟨σ3,H3,I3,n3⟩:=q3
   obtain ⟨m',hm,w3⟩:=hN σ3 H3 n3
   exact ⟨m',hm,σ3,H3,I3,w3⟩
  | brk=>exact q3
  | ret v=>exact q3
 | false=>
  rw [if_neg Bool.false_ne_true]
  exact wpAny_execs_nil ⟨σ1,H2,I2,q2⟩
end
structure It where
 go:Nat→Hp→Prop
 yld:Nat→Hp→V→Hp→Prop
 stop:Nat→Hp→Prop
def FpOk (X:Cx) (pins:List (Addr×Obj)) (H:Hp) (b:Addr):Prop:=
 H b=none∧b≠X.env.locals∧b∉X.fs∧(b∈X.ex∨X.s₀.heap.objs.size≤b)∧(∀ x c,X.env.cells.lookup x=some c→c≠b)∧∀ p∈X.pn++pins,p.1≠b
theorem Inv.fpOk {X:Cx} {pins:List (Addr×Obj)} {σ:St} {H H':Hp} {s:Shared} {b:Addr} (I:Inv X pins σ H s) (hb:s.heap.objs.size≤b) (hn:H' b=none):FpOk X pins H' b:=by
 refine ⟨hn,Nat.ne_of_gt (Nat.lt_of_lt_of_le I.lt hb),I.nofs hb,.inr (Nat.le_trans I.sz hb),fun x c e z=>?_,fun p hp z=>?_⟩
 ·obtain ⟨v,q⟩:=I.cell x c e
  exact absurd (Nat.lt_of_lt_of_le q.lt (by rw [z]; exact hb)) (Nat.lt_irrefl _)
 ·exact absurd (Nat.lt_of_lt_of_le (Heap.lt_size (I.pin p hp).1) (by rw [z]; exact hb)) (Nat.lt_irrefl _)
structure Turn (P:Program) (w:World) (K:W.Frag) (tg:Expr) (J:It) (fp:List Addr) (it:Addr) (tn:Nat→Heap→Prop):Prop where
 mem:it∈fp
 obj:∀ i h,tn i h→∀ b∈fp,∃ o,h.get? b=some o∧∀ v,o.data≠.cell v
 keep:∀ i h h',tn i h→(∀ b∈fp,∀ o,h.get? b=some o→h'.get? b=some o)→tn i h'
 item:∀ (X:Cx),X.prog=P→X.w=w→X.K=K→X.calm=true→∀ (i:Nat) (pins:List (Addr×Obj)) (s:Shared) (σ:St) (H:Hp) (E:Value→Shared→Prop),Inv X pins σ H s→(∀ b∈fp,FpOk X pins H b)→tn i s.heap→J.go i H →
  wpAny (model P w) X.A (pyNext (.ref it)) (fun r s1=>∃ u,r=some u ∧
   wpAny (model P w) X.A (letOwnedTupleGo tg (.ref it) u) (fun _ s2=>∃ x H',Inv X pins σ H' s2∧RelV x u∧J.yld i H x H'∧tn (i+1) s2.heap∧∀ b∈fp,H' b=none) E s1) E s
 done:∀ (X:Cx),X.prog=P→X.w=w→X.K=K→X.calm=true→∀ (i:Nat) (pins:List (Addr×Obj)) (s:Shared) (σ:St) (H:Hp) (E:Value→Shared→Prop),Inv X pins σ H s→(∀ b∈fp,FpOk X pins H b)→tn i s.heap→J.stop i H →
  wpAny (model P w) X.A (pyNext (.ref it)) (fun r s1=>r=none∧Inv X pins σ H s1) E s
 self:∀ (A:Around) (i:Nat) (s:Shared) (Q:Value→Shared→Prop) (E:Value→Shared→Prop),tn i s.heap→Q (.ref it) s→wpAny (model P w) A (pyIter (.ref it)) Q E s
abbrev TI:=St→Hp→(It→Hp→Prop)→Prop
def PIE (X:Cx) (pins:List (Addr×Obj)) (σ:St) (tg:Expr) (R:It→Hp→Prop) (itv:Value) (s2:Shared):Prop:=
 ∃ (it:Addr) (fp:List Addr) (tn:Nat→Heap→Prop) (J:It) (H':Hp),itv=.ref it∧Inv X pins σ H' s2∧Turn X.prog X.w X.K tg J fp it tn∧tn 0 s2.heap∧(∀ b∈fp,FpOk X pins H' b)∧R J H'
def PI (X:Cx) (tg iter:Expr) (wi:TI):Prop:=
 ∀ (pins:List (Addr×Obj)) (s:Shared) (σ:St) (H:Hp) (R:It→Hp→Prop),Inv X pins σ H s→wi σ H R →
  wpAny (model X.prog X.w) X.A (eval iter X.env) (fun v s1=>wpAny (model X.prog X.w) X.A (pyIter v) (PIE X pins σ tg R) X.xe s1) X.xe s
theorem J4b {M:Model} {A:Around} {E:Value→Shared→Prop} {s:Shared} {tg:Expr} {it:Addr} {u:Value} {o:Obj} {n:String} {vs:Array Value} {Q:Unit→Shared→Prop} (ho:s.heap.get? it=some o) (hc:o.cls=.type n) (hd:o.data=.fields vs)
    (hn:["enumerate","zip","dict_itemiterator","dict_reverseitemiterator","odict_iterator","itertools.zip_longest","itertools.pairwise"].contains n=false) (hQ:Q () s):wpAny M A (letOwnedTupleGo tg (.ref it) u) Q E s:=by
  unfold letOwnedTupleGo
  cases tg <;> first
    | exact wpAny_pure hQ
    | (cases u <;> first
        | exact wpAny_pure hQ
        | (refine wpAny_bind (wpAny_load ho ?_)
           rw [hc,hd]
           show wpAny M A (if (["enumerate","zip","dict_itemiterator","dict_reverseitemiterator","odict_iterator","itertools.zip_longest","itertools.pairwise"].contains n&&vs[0]? == some (rawInt _))=true then _ else _) Q E s
           rw [if_neg (by intro h; rw [hn,Bool.false_and] at h; cases h)]
           exact wpAny_pure hQ))
def Itl (K:W.Frag) (a:Addr):It:=
 ⟨fun i H=>∃ xs x,SqL K H a xs∧xs[i]?=some x,fun i H x H'=>H'=H∧∀ xs,SqL K H a xs→xs[i]?=some x,fun i H=>∃ xs,SqL K H a xs∧xs.length≤i⟩
def Itt (K:W.Frag) (a:Addr):It:=
 ⟨fun i H=>∃ xs x,SqT K H a xs∧xs[i]?=some x,fun i H x H'=>H'=H∧∀ xs,SqT K H a xs→xs[i]?=some x,fun i H=>∃ xs,SqT K H a xs∧xs.length≤i⟩
def Itr (lo:Int) (n:Nat):It:=⟨fun i _=>i < n,fun i H x H'=>H'=H∧x=.int (lo+i),fun i _=>n≤i⟩
theorem Z8m {P:Program} {w:World} {K:W.Frag} {tg:Expr} (a it:Addr):Turn P w K tg (Itl K a) [it] it (fun i h=>h.IsListIter it a i) where
 mem:=by simp
 obj:=fun i h st b hb=>by
  have e:b=it:=by simpa using hb
  subst e
  obtain ⟨o,e,c,d⟩:=st
  exact ⟨o,e,fun v z=>by rw [d] at z; cases z⟩
 keep:=fun i h h' st k=>st.at fun o e=>k it (by simp) o e
 item:=by
  intro X hP hw hK hc i pins s σ H E I hf st hg
  subst hP hw hK
  obtain ⟨xs,x,hq,hx⟩:=hg
  obtain ⟨its,rv,p,hz⟩:=I.list hq
  obtain ⟨u,hu,ru⟩:=rv.get hx
  obtain ⟨f0,f1,f2,f3,f4,f5⟩:=hf it (by simp)
  refine wpAny_pyNext_list_item st p.isList (x:=u) (by simpa using hu) fun h' st' sb=>?_
  have I1:Inv X pins σ H { s with heap:=h' }:=I.turned (t':=s.toks) (fun b o hb e=>(sb.2 b hb).trans e) f0 f1 f3 f4 f5
  obtain ⟨o,e,c,d⟩:=id st'
  exact ⟨u,rfl,J4b (s:={ s with heap:=h' }) e c d (by decide) ⟨x,H,I1,ru,⟨rfl,fun ys hy=>by rw [I.list_inj hy hq]; exact hx⟩,st',fun b hb=>(hf b hb).1⟩⟩
 done:=by
  intro X hP hw hK hc i pins s σ H E I hf st hg
  subst hP hw hK
  obtain ⟨xs,hq,hx⟩:=hg
  obtain ⟨its,rv,p,hz⟩:=I.list hq
  obtain ⟨f0,f1,f2,f3,f4,f5⟩:=hf it (by simp)
  have hl:=rv.length
  exact wpAny_pyNext_list_end (I.ok.hd hc) st p.isList (by simp; omega) fun h' eb=>⟨rfl,I.turned (t':=s.toks) (fun b o hb e=>eb b o hb e) f0 f1 f3 f4 f5⟩
 self:=fun _ _ _ _ _ st h=>wpAny_pyIter_listiter st h
theorem Z7M {P:Program} {w:World} {K:W.Frag} {tg:Expr} (it:Addr) (lo:Int) (n:Nat):Turn P w K tg (Itr lo n) [it] it (fun i h=>IsRangeIter h it (lo+(i:Nat) * 1) ((n:Int) - (i:Nat)) 1) where
 mem:=by simp
 obj:=fun i h st b hb=>by
  have e:b=it:=by simpa using hb
  subst e
  exact ⟨_,st,fun v z=>by
   have z':Data.fields _=Data.cell v:=z
   cases z'⟩
 keep:=fun i h h' st k=>k it (by simp) _ st
 item:=by
  intro X hP hw hK hc i pins s σ H E I hf st hg
  subst hP hw hK
  obtain ⟨f0,f1,f2,f3,f4,f5⟩:=hf it (by simp)
  have W:=Walks.range (prog:=X.prog) (w:=X.w) (I.ok.hd hc) it lo 1 n
  refine W.item i s _ _ hg st fun v h' tk hv st' kk=>?_
  obtain ⟨t,rfl⟩:=hv
  have I1:Inv X pins σ H { s with heap:=h',toks:=tk }:=I.turned (fun b o hb e=>kk b o (by simpa using hb) e) f0 f1 f3 f4 f5
  refine ⟨_,rfl,J4b (s:={ s with heap:=h',toks:=tk }) (n:="range_iterator") st' rfl rfl (by decide) ⟨.int (lo+i),H,I1,⟨t,?_⟩,⟨rfl,rfl⟩,st',fun b hb=>(hf b hb).1⟩⟩
  rw [Int.mul_one]
 done:=by
  intro X hP hw hK hc i pins s σ H E I hf st hg
  subst hP hw hK
  obtain ⟨f0,f1,f2,f3,f4,f5⟩:=hf it (by simp)
  exact wpAny_pyNext_range_end (I.ok.hd hc) st (by have:n≤i:=hg; omega) fun h' eb=>⟨rfl,I.turned (t':=s.toks) (fun b o hb e=>eb b o hb e) f0 f1 f3 f4 f5⟩
 self:=fun _ _ _ _ _ st h=>wpAny_pyIter_rangeiter st h
end L2
namespace L2
open PySem PySem.Spec PyProof.Rows
section
variable {X:Cx} {tg:Expr}
def J4t (K:W.Frag) (tl:TE):TI:=fun σ H R=>tl σ H fun x H1=>∃ a,x=.ref a∧(∃ xs,SqL K H1 a xs)∧R (Itl K a) H1
def iTup (K:W.Frag) (tl:TE):TI:=fun σ H R=>tl σ H fun x H1=>∃ a,x=.ref a∧(∃ xs,SqT K H1 a xs)∧R (Itt K a) H1
theorem Z3l {l:Expr} {tl:TE} (hl:PE X l tl):PI X tg l (J4t X.K tl):=by
 intro pins s σ H R I h
 refine thn (hl pins s σ H _ I h) fun v s1 ⟨x,H1,I1,r1,q1⟩=>?_
 obtain ⟨a,e,⟨xs,hq⟩,q⟩:=q1
 subst e
 cases r1
 obtain ⟨its,rv,p,hz⟩:=I1.list hq
 refine wpAny_pyIter_list p.isList ?_
 refine ⟨s1.heap.objs.size,[s1.heap.objs.size],_,_,H1,rfl,I1.kept (t':=s1.toks) fun b o e=>Heap.get?_push_of_some _ e,Z8m a _,⟨_,Heap.get?_push_size _ rfl,rfl,rfl⟩,fun b hb=>?_,q⟩
 have e:b=s1.heap.objs.size:=by simpa using hb
 subst e
 exact I1.fpOk (Nat.le_refl _) (I1.hok.fresh (Nat.le_refl _))
theorem J0l {pins:List (Addr×Obj)} {σ:St} {H:Hp} {s:Shared} {R:It→Hp→Prop} {E:Value→Shared→Prop} {lo hi:Int} {t u v:Tok} {tk:Nat} (I:Inv X pins σ H s) (h1:-(2 ^ 62)≤lo) (h2:lo < 2 ^ 62) (h3:-(2 ^ 62)≤hi) (h4:hi < 2 ^ 62)
  (q:R (Itr lo (hi - lo).toNat) H):wpAny (model X.prog X.w) X.A (pyIter (.ref s.heap.objs.size)) (PIE X pins σ tg R) E { s with heap:=s.heap.push { cls:=.type "range",data:=.fields #[.int lo t,.int hi u,.int 1 v] },toks:=tk }:=by
 refine wpAny_pyIter_range (IsRange.new ..) (small_one h1 h2 h3 h4) ?_
 have I1:Inv X pins σ H { s with heap:=s.heap.push { cls:=.type "range",data:=.fields #[.int lo t,.int hi u,.int 1 v] },toks:=tk }:=I.kept fun b o e=>Heap.get?_push_of_some _ e
 refine ⟨(s.heap.push { cls:=.type "range",data:=.fields #[.int lo t,.int hi u,.int 1 v] }).objs.size,[(s.heap.push { cls:=.type "range",data:=.fields #[.int lo t,.int hi u,.int 1 v] }).objs.size],_,_,H,rfl,
  I1.kept (t':=tk) fun b o e=>Heap.get?_push_of_some _ e,Z7M _ lo (hi - lo).toNat,?_,fun b hb=>?_,q⟩
 ·have e1:lo+((0:Nat):Int) * 1=lo:=by simp
  have e2:(((hi - lo).toNat:Nat):Int) - ((0:Nat):Int)=Builtin.Range.rangeSize lo hi 1:=by rw [rangeSize_one]; split <;> omega
  show IsRangeIter _ _ (lo+((0:Nat):Int) * 1) ((((hi - lo).toNat:Nat):Int) - ((0:Nat):Int)) 1
  rw [e1,e2]
  exact Heap.get?_push_size _ rfl
 ·have e:b=(s.heap.push { cls:=.type "range",data:=.fields #[.int lo t,.int hi u,.int 1 v] }).objs.size:=by simpa using hb
  subst e
  exact I1.fpOk (Nat.le_refl _) (I1.hok.fresh (Nat.le_refl _))
def J4x (ta:TA):TI:=fun σ H R=>ta σ H fun vs H1=>∃ j:Int,vs=[.int j]∧-(2 ^ 62)≤j∧j < 2 ^ 62∧R (Itr 0 j.toNat) H1
def J6F (ta:TA):TI:=fun σ H R=>ta σ H fun vs H1=>∃ i j:Int,vs=[.int i,.int j]∧(-(2 ^ 62)≤i∧i < 2 ^ 62∧-(2 ^ 62)≤j∧j < 2 ^ 62)∧R (Itr i (j - i).toNat) H1
theorem Z0Q {a:Expr} {ta:TA} {p pos:Pos} (hg:Gl X "range") (hm:X.mg "range"=none) (ha:PA X [a] ta) (hs:starEach [a] X.env=[(false,eval a X.env)]:=by rfl):PI X tg (.Call (.Name "range" p) [a] [] pos) (J4x ta):=by
 intro pins s σ H R I h
 refine Call_ (Z6J I hg hm boot_range (PyProof.Rows.callWith_type1 (thn (ha pos pins s σ H _ I h) fun us s1 ⟨vs,H1,I1,r1,q1⟩=>?_) hs rfl))
 obtain ⟨j,e,q1,q2,q⟩:=q1
 subst e
 cases r1 with
 | cons r rr=>
  cases rr
  obtain ⟨t,rfl⟩:=r
  exact call_range_1 (J0l I1 (by omega) (by omega) q1 q2 (by simpa using q))
def tFor (wi:TI) (g:TG) (tb:TS):TS:=fun D σ H=>wi σ H fun J H1=>∃ W:Nat→Nat→St→Hp→Prop,(∃ m,W 0 m σ H1)∧∀ i m σ H,W i m σ H →
 (J.stop i H∧D.nx σ H)∨(J.go i H∧∃ N:St→Hp→Prop,(∀ σ' H',N σ' H'→∃ m',m' < m∧W (i+1) m' σ' H')∧∀ x H',J.yld i H x H'→g x σ H' fun σ2 H2=>tb { D with nx:=N,ct:=N,bk:=D.nx } σ2 H2)
def Z5E (fp:List Addr) (h:Heap):List (Addr×Obj):=fp.filterMap fun b=>(h.get? b).map fun o=>(b,o)
theorem Z3b {fp:List Addr} {h:Heap} {b:Addr} {o:Obj} (hb:b∈fp) (e:h.get? b=some o):(b,o)∈Z5E fp h:=List.mem_filterMap.mpr ⟨b,hb,by rw [e]; rfl⟩
theorem Z8M {fp:List Addr} {h:Heap} {p:Addr×Obj} (hp:p∈Z5E fp h):p.1∈fp∧h.get? p.1=some p.2:=by
 obtain ⟨b,hb,e⟩:=List.mem_filterMap.mp hp
 cases q:h.get? b with
 | none=>rw [q] at e; cases e
 | some o=>
  rw [q] at e
  have e':(b,o)=p:=Option.some.inj e
  subst e'
  exact ⟨hb,q⟩
theorem Inv.pinned {pins:List (Addr×Obj)} {σ:St} {H:Hp} {s:Shared} {fp:List Addr} (I:Inv X pins σ H s) (hf:∀ b∈fp,FpOk X pins H b) (ho:∀ b∈fp,∃ o,s.heap.get? b=some o∧∀ v,o.data≠.cell v):Inv X (pins++Z5E fp s.heap) σ H s:=
 I.pins_of fun p hp=>(List.mem_append.mp hp).elim (fun z=>I.pin p (List.mem_append_right _ z)) fun z=>by
  obtain ⟨hb,e⟩:=Z8M z
  obtain ⟨f0,f1,f2,_⟩:=hf p.1 hb
  obtain ⟨o,e',d⟩:=ho p.1 hb
  rw [e] at e'; cases e'
  exact ⟨e,f0,f1,f2,d⟩
theorem Inv.unpinned {pins pl:List (Addr×Obj)} {σ:St} {H:Hp} {s:Shared} (I:Inv X (pins++pl) σ H s):Inv X pins σ H s:=I.pins_of fun p hp=>I.pin p (List.mem_append_right _ (List.mem_append_left _ hp))
theorem Z3g {iter:Expr} {body:List Stmt} {wi:TI} {g:TG} {tb:TS} {pos:Pos} (hp:PassesOwn (model X.prog X.w) X.A X.env X.xe) (hc:X.calm=true) (hi:PI X tg iter wi) (hg:PG X tg g) (hb:PSs X body tb)
  (hs:∀ x,foldedSetIterable iter X.env x=pure x:=by intro _; rfl):PS X (.For tg iter body [] pos) (tFor wi g tb):=by
 intro pins s σ H D I h
 refine wpAny_For (thn (hi pins s σ H _ I h) fun v s1 h1=>thn h1 fun itv s2 h2=>?_) hs
 obtain ⟨it,fp,tn,J,H2,e,I2,T,st2,f2,W,⟨m0,w0⟩,turn⟩:=h2
 subst e
 -- what stays true of the iterator's objects through the loop
 have stat:∀ {H':Hp},(∀ b∈fp,H' b=none)→∀ b∈fp,FpOk X pins H' b:=fun hn b hb=>⟨hn b hb,(f2 b hb).2⟩
 refine codeAny_forLoop_any (fun n s'=>∃ i σ' H',Inv X pins σ' H' s'∧tn i s'.heap∧(∀ b∈fp,H' b=none)∧W i n σ' H') ?_ m0 ⟨0,σ,H2,I2,st2,fun b hb=>(f2 b hb).1,w0⟩
 rintro n s3 ⟨i,σ3,H3,I3,st3,fr3,w3⟩
 rcases turn i n σ3 H3 w3 with ⟨stop,qn⟩ | ⟨go,N,hN,step⟩
 ·refine wpAny_passesOwn hp (thn (T.done X rfl rfl rfl hc i pins s3 σ3 H3 X.xe I3 (stat fr3) st3 stop) fun r s4 ⟨hr,I4⟩=>?_)
  subst hr
  exact wpAny_execs_nil ⟨σ3,H3,I4,qn⟩
 ·refine wpAny_passesOwn hp (thn (T.item X rfl rfl rfl hc i pins s3 σ3 H3 X.xe I3 (stat fr3) st3 go) fun r s4 ⟨u,hr,h4⟩=>?_)
  subst hr
  refine wpAny_passesOwn hp (thn h4 fun _ s5 ⟨x,H5,I5,r5,y5,st5,fr5⟩=>?_)
  have I5':=I5.pinned (stat fr5) (T.obj _ _ st5)
  refine wpAny_passesOwn hp (thn (hg _ s5 σ3 H5 x u _ I5' r5 (step x H5 y5)) fun _ s6 ⟨σ6,H6,I6,q6⟩=>?_)
  refine wpAny_passesOwn hp (thn (hb _ s6 σ6 H6 _ I6 q6) fun f s7 q7=>?_)
  have again:∀ {σ7:St} {H7:Hp},Inv X (pins++Z5E fp s5.heap) σ7 H7 s7→N σ7 H7→∃ m,m < n∧∃ i σ' H',Inv X pins σ' H' s7∧tn i s7.heap∧(∀ b∈fp,H' b=none)∧W i m σ' H':=fun {σ7 H7} I7 n7=>by
   obtain ⟨m',hm,w7⟩:=hN σ7 H7 n7
   refine ⟨m',hm,i+1,σ7,H7,I7.unpinned,T.keep _ _ _ st5 fun b hb o e=>(I7.pin (b,o) (List.mem_append_right _ (List.mem_append_right _ (Z3b hb e)))).1,fun b hb=>?_,w7⟩
   obtain ⟨o,e,d⟩:=T.obj _ _ st5 b hb
   exact (I7.pin (b,o) (List.mem_append_right _ (List.mem_append_right _ (Z3b hb e)))).2.1
  cases f with
  | next=>obtain ⟨σ7,H7,I7,n7⟩:=q7; exact again I7 n7
  | cont=>obtain ⟨σ7,H7,I7,n7⟩:=q7; exact again I7 n7
  | brk=>obtain ⟨σ7,H7,I7,q7⟩:=q7; exact ⟨σ7,H7,I7.unpinned,q7⟩
  | ret v=>obtain ⟨x7,σ7,H7,I7,r7,q7⟩:=q7; exact ⟨x7,σ7,H7,I7.unpinned,r7,q7⟩
end
theorem J0s {K:W.Frag} {a:Addr} {xs:List V} {g:TG} {tb:TS} {D:Ends} {σ:St} {H:Hp} (Pv:Nat→St→Hp→Prop) (h0:Pv 0 σ H) (hl:∀ i σ H,i≤xs.length→Pv i σ H→SqL K H a xs)
  (hs:∀ i x σ H,xs[i]?=some x→Pv i σ H→g x σ H fun σ2 H2=>tb { D with nx:=Pv (i+1),ct:=Pv (i+1),bk:=D.nx } σ2 H2) (hd:∀ σ H,Pv xs.length σ H→D.nx σ H) :
  ∃ W:Nat→Nat→St→Hp→Prop,(∃ m,W 0 m σ H)∧∀ i m σ H,W i m σ H →
   ((Itl K a).stop i H∧D.nx σ H)∨((Itl K a).go i H∧∃ N:St→Hp→Prop,(∀ σ' H',N σ' H'→∃ m',m' < m∧W (i+1) m' σ' H')∧∀ x H',(Itl K a).yld i H x H'→g x σ H' fun σ2 H2=>tb { D with nx:=N,ct:=N,bk:=D.nx } σ2 H2):=by
 refine ⟨fun i m σ H=>m=xs.length - i∧i≤xs.length∧Pv i σ H,⟨xs.length,by simp,Nat.zero_le _,h0⟩,?_⟩
 rintro i m σ H ⟨rfl,hi,p⟩
 have q:=hl i σ H hi p
 by_cases hlt:i < xs.length
 ·refine .inr ⟨⟨xs,xs[i],q,by simp [hlt]⟩,Pv (i+1),fun σ' H' p'=>⟨xs.length - (i+1),by omega,rfl,hlt,p'⟩,fun x H' y=>?_⟩
  obtain ⟨e,y⟩:=y
  subst e
  exact hs i x σ _ (y xs q) p
 ·have e:i=xs.length:=by omega
  subst e
  exact .inl ⟨⟨xs,q,Nat.le_refl _⟩,hd σ H p⟩
theorem Z8y {lo:Int} {n:Nat} {g:TG} {tb:TS} {D:Ends} {σ:St} {H:Hp} (Pv:Nat→St→Hp→Prop) (h0:Pv 0 σ H)
  (hs:∀ i σ H,i < n→Pv i σ H→g (.int (lo+i)) σ H fun σ2 H2=>tb { D with nx:=Pv (i+1),ct:=Pv (i+1),bk:=D.nx } σ2 H2) (hd:∀ σ H,Pv n σ H→D.nx σ H) :
  ∃ W:Nat→Nat→St→Hp→Prop,(∃ m,W 0 m σ H)∧∀ i m σ H,W i m σ H →
   ((Itr lo n).stop i H∧D.nx σ H)∨((Itr lo n).go i H∧∃ N:St→Hp→Prop,(∀ σ' H',N σ' H'→∃ m',m' < m∧W (i+1) m' σ' H')∧∀ x H',(Itr lo n).yld i H x H'→g x σ H' fun σ2 H2=>tb { D with nx:=N,ct:=N,bk:=D.nx } σ2 H2):=by
 refine ⟨fun i m σ H=>m=n - i∧i≤n∧Pv i σ H,⟨n,by simp,Nat.zero_le _,h0⟩,?_⟩
 rintro i m σ H ⟨rfl,hi,p⟩
 by_cases hlt:i < n
 ·refine .inr ⟨hlt,Pv (i+1),fun σ' H' p'=>⟨n - (i+1),by omega,rfl,hlt,p'⟩,fun x H' y=>?_⟩
  obtain ⟨e,y⟩:=y
  subst e y
  exact hs i σ _ hlt p
 ·have e:i=n:=by omega
  subst e
  exact .inl ⟨Nat.le_refl _,hd σ H p⟩
end L2
namespace L2
open PySem PySem.Spec PyProof.Rows
abbrev R2:=V→V→Hp→VK→Prop
def OpR (X:Cx) (f:Value→Value→Sem Value) (r:R2):Prop:=
 ∀ (pins:List (Addr×Obj)) (s:Shared) (σ:St) (H:Hp) (x y:V) (v u:Value) (Q:VK),Inv X pins σ H s→RelV x v→RelV y u→r x y H Q →
  wpAny (model X.prog X.w) X.A (f v u) (EP X pins σ Q) X.xe s
def UnR (X:Cx) (f:Value→Sem Value) (r:V→Hp→VK→Prop):Prop:=
 ∀ (pins:List (Addr×Obj)) (s:Shared) (σ:St) (H:Hp) (x:V) (v:Value) (Q:VK),Inv X pins σ H s→RelV x v→r x H Q →
  wpAny (model X.prog X.w) X.A (f v) (EP X pins σ Q) X.xe s
def Z4l (X:Cx) (f:Value) (r:List V→Hp→VK→Prop):Prop:=
 ∀ (pins:List (Addr×Obj)) (s:Shared) (σ:St) (H:Hp) (xs:List V) (us:List Value) (Q:VK),Inv X pins σ H s→Vals xs us→r xs H Q →
  wpAny (model X.prog X.w) X.A (call f us) (EP X pins σ Q) X.xe s
def tOp (r:R2) (ta tb:TE):TE:=fun σ H Q=>ta σ H fun x H1=>tb σ H1 fun y H2=>r x y H2 Q
def tUn (r:V→Hp→VK→Prop) (ta:TE):TE:=fun σ H Q=>ta σ H fun x H1=>r x H1 Q
def rI (C:Int→Int→Prop) (g:Int→Int→V):R2:=fun x y H Q=>∃ i j,x=.int i∧y=.int j∧C i j∧Q (g i j) H
def rI0 (g:Int→Int→V):R2:=fun x y H Q=>∃ i j,x=.int i∧y=.int j∧Q (g i j) H
def rU (g:Int→V):V→Hp→VK→Prop:=fun x H Q=>∃ i,x=.int i∧Q (g i) H
section
variable {X:Cx} {a b c:Expr} {ta tb tc:TE} {pos:Pos}
theorem binT (ha:PE X a ta) (hb:PE X b tb) {pins:List (Addr×Obj)} {s:Shared} {σ:St} {H:Hp} {R:V→V→Hp→Prop} (I:Inv X pins σ H s)
  (h:ta σ H fun x H1=>tb σ H1 fun y H2=>R x y H2) {Q:Value→Shared→Prop} {f:Value→Value→Sem Value}
  (hf:∀ v u s2 x y H2,Inv X pins σ H2 s2→RelV x v→RelV y u→R x y H2→wpAny (model X.prog X.w) X.A (f v u) Q X.xe s2) :
  wpAny (model X.prog X.w) X.A (eval a X.env) (fun v s₁=>wpAny (model X.prog X.w) X.A (eval b X.env) (fun u s₂=>wpAny (model X.prog X.w) X.A (f v u) Q X.xe s₂) X.xe s₁) X.xe s:=by
 refine thn (ha pins s σ H _ I h) fun v s1 ⟨x,H1,I1,r1,q1⟩=>?_
 refine thn (hb pins s1 σ H1 _ I1 q1) fun u s2 ⟨y,H2,I2,r2,q2⟩=>?_
 exact hf v u s2 x y H2 I2 r1 r2 q2
theorem Z0k {op:Operator} {r:R2} (ho:OpR X (binaryOp op) r) (ha:PE X a ta) (hb:PE X b tb):PE X (.BinOp a op b pos) (tOp r ta tb):=by
 intro pins s σ H Q I h
 exact wpAny_BinOp (binT ha hb I h fun v u s2 x y H2 I2 rx ry q=>ho pins s2 σ H2 x y v u Q I2 rx ry q)
theorem Z2L {op:UnaryOp} {r:V→Hp→VK→Prop} (ho:UnR X (unaryOp op) r) (ha:PE X a ta):PE X (.UnaryOp op a pos) (tUn r ta):=by
 intro pins s σ H Q I h
 exact UnaryOp_ (thn (ha pins s σ H _ I h) fun v s1 ⟨x,H1,I1,r1,q1⟩=>ho pins s1 σ H1 x v Q I1 r1 q1)
theorem opI {f:Value→Value→Sem Value} {C:Int→Int→Prop} {g:Int→Int→Int}
  (rule:∀ (i j:Int) (t u:Tok) (s:Shared) (Q:Value→Shared→Prop) (E:Value→Shared→Prop),C i j→Q (.int (g i j) s.toks) { s with toks:=s.toks+1 }→wpAny (model X.prog X.w) X.A (f (.int i t) (.int j u)) Q E s) :
  OpR X f (rI C fun i j=>.int (g i j)):=by
 intro pins s σ H x y v u Q I rx ry h
 obtain ⟨i,j,rfl,rfl,hc,q⟩:=h
 obtain ⟨t,rfl⟩:=rx
 obtain ⟨t',rfl⟩:=ry
 exact rule i j t t' s _ _ hc ⟨.int (g i j),H,I.tok _,⟨_,rfl⟩,q⟩
theorem opI0 {f:Value→Value→Sem Value} {g:Int→Int→Int}
  (rule:∀ (i j:Int) (t u:Tok) (s:Shared) (Q:Value→Shared→Prop) (E:Value→Shared→Prop),Q (.int (g i j) s.toks) { s with toks:=s.toks+1 }→wpAny (model X.prog X.w) X.A (f (.int i t) (.int j u)) Q E s) :
  OpR X f (rI0 fun i j=>.int (g i j)):=by
 intro pins s σ H x y v u Q I rx ry h
 obtain ⟨i,j,rfl,rfl,q⟩:=h
 obtain ⟨t,rfl⟩:=rx
 obtain ⟨t',rfl⟩:=ry
 exact rule i j t t' s _ _ ⟨.int (g i j),H,I.tok _,⟨_,rfl⟩,q⟩
theorem opB0 {f:Value→Value→Sem Value} {g:Int→Int→Bool}
  (rule:∀ (i j:Int) (t u:Tok) (s:Shared) (Q:Value→Shared→Prop) (E:Value→Shared→Prop),Q (.bool (g i j)) s→wpAny (model X.prog X.w) X.A (f (.int i t) (.int j u)) Q E s) :
  OpR X f (rI0 fun i j=>.bl (g i j)):=by
 intro pins s σ H x y v u Q I rx ry h
 obtain ⟨i,j,rfl,rfl,q⟩:=h
 obtain ⟨t,rfl⟩:=rx
 obtain ⟨t',rfl⟩:=ry
 exact rule i j t t' s _ _ ⟨.bl (g i j),H,I,rfl,q⟩
def CDiv (i j:Int):Prop:=0 < j∧j < 1073741824
def CPow (i j:Int):Prop:=0≤j∧j≤1000000∧i.natAbs < 2 ^ 64
def CMul (i j:Int):Prop:=(-(2 ^ 64) < i∧i < 2 ^ 64)∨(-(2 ^ 64) < j∧j < 2 ^ 64)
theorem CMul.ok {i j:Int} (h:CMul i j):IntMulOk i j:=by
 rcases h with ⟨h1,h2⟩ | ⟨h1,h2⟩
 ·exact .of_left (intBits_le_64 h1 h2)
 ·exact .of_right (intBits_le_64 h1 h2)
theorem Z0N:OpR X (binaryOp .Add) (rI0 fun i j=>.int (i+j)):=opI0 fun _ _ _ _ _ _ _ q=>add_int q
theorem Z2r:OpR X (binaryOp .Sub) (rI0 fun i j=>.int (i - j)):=opI0 fun _ _ _ _ _ _ _ q=>sub_int q
theorem Z2B:OpR X (binaryOp .Mult) (rI CMul fun i j=>.int (i * j)):=opI fun _ _ _ _ _ _ _ hc q=>mul_int q hc.ok
theorem Z0E:OpR X (binaryOp .FloorDiv) (rI CDiv fun i j=>.int (i / j)):=opI fun i j _ _ _ _ _ hc q=>by
 have h1:(0:Int) < j:=hc.1
 have h2:j < 1073741824:=hc.2
 exact floordiv_int (by omega) (by rw [Int.fdiv_eq_ediv_of_nonneg i (by omega)]; exact q) (.inl (PyProof.noPylong_small (by omega)))
theorem Z0G:OpR X (binaryOp .Mod) (rI (fun _ j=>0 < j) fun i j=>.int (i % j)):=opI fun i j _ _ _ _ _ hc q=>by
 have h1:(0:Int) < j:=hc
 exact mod_int' (by omega) (by rw [Int.fmod_eq_emod_of_nonneg i (by omega)]; exact q)
theorem Z8A:OpR X (binaryOp .Pow) (rI CPow fun i j=>.int (i ^ j.toNat)):=opI fun _ _ _ _ _ _ _ hc q=>pow_int_small hc.1 hc.2.1 hc.2.2 q
theorem Z5m:OpR X (inplaceOp .Add) (rI0 fun i j=>.int (i+j)):=opI0 fun _ _ _ _ _ _ _ q=>iadd_int q
theorem unI {f:Value→Sem Value} {g:Int→Int}
  (rule:∀ (i:Int) (t:Tok) (s:Shared) (Q:Value→Shared→Prop) (E:Value→Shared→Prop),Q (.int (g i) s.toks) { s with toks:=s.toks+1 }→wpAny (model X.prog X.w) X.A (f (.int i t)) Q E s) :
  UnR X f (rU fun i=>.int (g i)):=by
 intro pins s σ H x v Q I rx h
 obtain ⟨i,rfl,q⟩:=h
 obtain ⟨t,rfl⟩:=rx
 exact rule i t s _ _ ⟨.int (g i),H,I.tok _,⟨_,rfl⟩,q⟩
theorem Z1N:UnR X (unaryOp .USub) (rU fun i=>.int (-i)):=unI fun _ _ _ _ _ q=>neg_int q
end
def scal:V→V→Bool
 | .non,.non=>true | .non,.int _=>true | .int _,.non=>true | .non,.bl _=>true | .bl _,.non=>true | .non,.str _=>true | .str _,.non=>true
 | .int _,.int _=>true | .bl _,.bl _=>true | .str _,.str _=>true | .byt _,.byt _=>true
 | .int _,.str _=>true | .str _,.int _=>true | .bl _,.str _=>true | .str _,.bl _=>true
 | _,_=>false
def rEq:R2:=fun x y H Q=>scal x y=true∧Q (.bl (decide (x=y))) H
def rNe:R2:=fun x y H Q=>scal x y=true∧Q (.bl (!decide (x=y))) H
theorem Z9V {i j:Int}:decide (V.int i=V.int j)=(i == j):=by
 rw [Bool.eq_iff_iff]
 simp
theorem J1t {i j:Bool}:decide (V.bl i=V.bl j)=(i == j):=by
 rw [Bool.eq_iff_iff]
 simp
theorem Z9M {i j:Str}:decide (V.str i=V.str j)=(i == j):=by
 rw [Bool.eq_iff_iff]
 simp
theorem Z9v {i j:Array UInt8}:decide (V.byt i=V.byt j)=(i.toList == j.toList):=by
 rw [Bool.eq_iff_iff]
 cases i
 cases j
 simp
section
variable {X:Cx} {a b c:Expr} {ta tb tc:TE} {pos:Pos}
theorem Z0T {pins:List (Addr×Obj)} {σ:St} {H:Hp} {s:Shared} {Q:VK} {k k':Bool} (I:Inv X pins σ H s) (q:Q (.bl k) H) (e:k=k'):EP X pins σ Q (.bool k') s:=by
 subst e
 exact ⟨.bl k,H,I,rfl,q⟩
theorem Z0R:OpR X (compareOp .Eq) rEq:=by
 intro pins s σ H x y v u Q I rx ry h
 obtain ⟨hs,q⟩:=h
 cases x with
 | non=>
  cases rx
  cases y with
  | non=>cases ry; exact PySem.EqNone.eq_none_none (Z0T I q (by simp))
  | bl j=>cases ry; exact PySem.EqNone.eq_none_bool (Z0T I q (by simp))
  | int j=>obtain ⟨t',rfl⟩:=ry; exact PySem.EqNone.eq_none_int (Z0T I q (by simp))
  | str j=>obtain ⟨t',rfl⟩:=ry; exact PySem.EqNone.eq_none_str (Z0T I q (by simp))
  | _=>exact absurd (show false=true from hs) Bool.false_ne_true
 | bl i=>
  cases rx
  cases y with
  | non=>cases ry; exact PySem.EqNone.eq_bool_none (Z0T I q (by simp))
  | bl j=>cases ry; exact eq_bool (Z0T I q J1t)
  | str j=>obtain ⟨t',rfl⟩:=ry; exact PySem.EqMixed.eq_bool_str (Z0T I q (by simp))
  | _=>exact absurd (show false=true from hs) Bool.false_ne_true
 | int i=>
  obtain ⟨t,rfl⟩:=rx
  cases y with
  | non=>cases ry; exact PySem.EqNone.eq_int_none (Z0T I q (by simp))
  | int j=>obtain ⟨t',rfl⟩:=ry; exact eq_int (Z0T I q Z9V)
  | str j=>obtain ⟨t',rfl⟩:=ry; exact PySem.EqMixed.eq_int_str (Z0T I q (by simp))
  | _=>exact absurd (show false=true from hs) Bool.false_ne_true
 | str i=>
  obtain ⟨t,rfl⟩:=rx
  cases y with
  | non=>cases ry; exact PySem.EqNone.eq_str_none (Z0T I q (by simp))
  | bl j=>cases ry; exact PySem.EqMixed.eq_str_bool (Z0T I q (by simp))
  | int j=>obtain ⟨t',rfl⟩:=ry; exact PySem.EqMixed.eq_str_int (Z0T I q (by simp))
  | str j=>obtain ⟨t',rfl⟩:=ry; exact eq_str (Z0T I q Z9M)
  | _=>exact absurd (show false=true from hs) Bool.false_ne_true
 | byt i=>
  obtain ⟨t,rfl⟩:=rx
  cases y with
  | byt j=>obtain ⟨t',rfl⟩:=ry; exact W.eq_bytes (Z0T I q Z9v)
  | _=>exact absurd (show false=true from hs) Bool.false_ne_true
 | _=>cases y <;> exact absurd (show false=true from hs) Bool.false_ne_true
theorem J2T:OpR X (compareOp .NotEq) rNe:=by
 intro pins s σ H x y v u Q I rx ry h
 obtain ⟨hs,q⟩:=h
 cases x with
 | non=>
  cases rx
  cases y with
  | non=>cases ry; exact PySem.EqNone.ne_none_none (Z0T I q (by simp))
  | bl j=>cases ry; exact PySem.EqNone.ne_none_bool (Z0T I q (by simp))
  | int j=>obtain ⟨t',rfl⟩:=ry; exact PySem.EqNone.ne_none_int (Z0T I q (by simp))
  | str j=>obtain ⟨t',rfl⟩:=ry; exact PySem.EqNone.ne_none_str (Z0T I q (by simp))
  | _=>exact absurd (show false=true from hs) Bool.false_ne_true
 | bl i=>
  cases rx
  cases y with
  | non=>cases ry; exact PySem.EqNone.ne_bool_none (Z0T I q (by simp))
  | bl j=>cases ry; exact ne_bool (Z0T I q (congrArg not J1t))
  | str j=>obtain ⟨t',rfl⟩:=ry; exact PySem.EqMixed.ne_bool_str (Z0T I q (by simp))
  | _=>exact absurd (show false=true from hs) Bool.false_ne_true
 | int i=>
  obtain ⟨t,rfl⟩:=rx
  cases y with
  | non=>cases ry; exact PySem.EqNone.ne_int_none (Z0T I q (by simp))
  | int j=>obtain ⟨t',rfl⟩:=ry; exact ne_int (Z0T I q (congrArg not Z9V))
  | str j=>obtain ⟨t',rfl⟩:=ry; exact PySem.EqMixed.ne_int_str (Z0T I q (by simp))
  | _=>exact absurd (show false=true from hs) Bool.false_ne_true
 | str i=>
  obtain ⟨t,rfl⟩:=rx
  cases y with
  | non=>cases ry; exact PySem.EqNone.ne_str_none (Z0T I q (by simp))
  | bl j=>cases ry; exact PySem.EqMixed.ne_str_bool (Z0T I q (by simp))
  | int j=>obtain ⟨t',rfl⟩:=ry; exact PySem.EqMixed.ne_str_int (Z0T I q (by simp))
  | str j=>obtain ⟨t',rfl⟩:=ry; exact ne_str (Z0T I q (congrArg not Z9M))
  | _=>exact absurd (show false=true from hs) Bool.false_ne_true
 | byt i=>
  obtain ⟨t,rfl⟩:=rx
  cases y with
  | byt j=>obtain ⟨t',rfl⟩:=ry; exact W.ne_bytes (Z0T I q (congrArg not Z9v))
  | _=>exact absurd (show false=true from hs) Bool.false_ne_true
 | _=>cases y <;> exact absurd (show false=true from hs) Bool.false_ne_true
theorem Z4B:OpR X (compareOp .Lt) (rI0 fun i j=>.bl (decide (i < j))):=opB0 fun _ _ _ _ _ _ _ q=>lt_int q
theorem Z8w:OpR X (compareOp .Gt) (rI0 fun i j=>.bl (decide (j < i))):=opB0 fun _ _ _ _ _ _ _ q=>gt_int q
theorem J5Q:OpR X (compareOp .GtE) (rI0 fun i j=>.bl (decide (j≤i))):=opB0 fun _ _ _ _ _ _ _ q=>ge_int q
theorem Z5f:OpR X (compareOp .IsNot) (fun x y H Q=>y=.non∧Q (.bl (!decide (x=.non))) H):=by
 intro pins s σ H x y v u Q I rx ry h
 obtain ⟨rfl,q⟩:=h
 cases ry
 refine isnot_none_gen (Z0T I q ?_)
 cases x <;> first
  | (cases rx; rfl)
  | (obtain ⟨t,rfl⟩:=rx; rfl)
theorem Z0o (b:Expr) {op:CmpOp} (h:op≠.In:=by decide) (h2:op≠.NotIn:=by decide):behindInMarks op b=false:=by
 have e1:(op == CmpOp.In)=false:=by cases op <;> first | rfl | exact absurd rfl h
 have e2:(op == CmpOp.NotIn)=false:=by cases op <;> first | rfl | exact absurd rfl h2
 cases b <;> simp [behindInMarks,e1,e2]
theorem Z2x {op:CmpOp} {r:R2} (ho:OpR X (compareOp op) r) (ha:PE X a ta) (hb:PE X b tb) (hm:behindInMarks op b=false):PE X (.Compare a [op] [b] pos) (tOp r ta tb):=by
 intro pins s σ H Q I h
 exact wpAny_Compare1 (binT ha hb I h fun v u s2 x y H2 I2 rx ry q=>ho pins s2 σ H2 x y v u Q I2 rx ry q) hm
def J4G (t:TE):TT:=fun σ H Q=>t σ H fun x H'=>∃ k,x=.bl k∧Q k H'
theorem Z0m {op:CmpOp} {r:R2} (ho:OpR X (compareOp op) r) (ha:PE X a ta) (hb:PE X b tb) (hm:behindInMarks op b=false):PT X (.Compare a [op] [b] pos) (J4G (tOp r ta tb)):=by
 intro pins s σ H Q I h
 refine wpAny_isTrue_Compare1 (thn (ha pins s σ H _ I h) fun v s1 ⟨x,H1,I1,r1,q1⟩=>thn (hb pins s1 σ H1 _ I1 q1) fun u s2 ⟨y,H2,I2,r2,q2⟩=>
  thn (ho pins s2 σ H2 x y v u _ I2 r1 r2 q2) fun c s3 ⟨z,H3,I3,r3,k,e,q3⟩=>?_) hm
 subst e
 cases r3
 exact wpAny_truthy_bool ⟨H3,I3,q3⟩
def J3v (r r':R2) (ta tb tc:TE):TE:=fun σ H Q=>ta σ H fun x H1=>tb σ H1 fun y H2=>r x y H2 fun z H3=>∃ k,z=.bl k ∧
 (if k=true then tc σ H3 fun w' H4=>r' y w' H4 Q else Q (.bl false) H3)
theorem Z5Z:(sizeLine:Nat) < 2 ^ 63:=by rw [sizeLine_eq]; decide
theorem J0I {x:V} {us:List Value} (r:Vals [x] us):∃ u,us=[u]∧RelV x u:=by
 cases r with
 | cons r1 r2=>cases r2; exact ⟨_,rfl,r1⟩
theorem J4z {x y:V} {us:List Value} (r:Vals [x,y] us):∃ u w',us=[u,w']∧RelV x u∧RelV y w':=by
 cases r with
 | cons r1 r2=>
  cases r2 with
  | cons r3 r4=>cases r4; exact ⟨_,_,rfl,r1,r3⟩
theorem J0k:Z4l X (.builtin "abs") (fun xs H Q=>∃ i,xs=[.int i]∧Q (.int (if i < 0 then -i else i)) H):=by
 intro pins s σ H xs us Q I r h
 obtain ⟨i,rfl,q⟩:=h
 obtain ⟨u,rfl,t,rfl⟩:=J0I r
 exact call_abs_int fun u tk=>⟨.int (if i < 0 then -i else i),H,I.tok _,⟨_,rfl⟩,q⟩
theorem Z9h (hc:X.calm=true):Z4l X (.builtin "max") (fun xs H Q=>∃ i j,xs=[.int i,.int j]∧Q (.int (if j > i then j else i)) H):=by
 intro pins s σ H xs us Q I r h
 obtain ⟨i,j,rfl,q⟩:=h
 obtain ⟨u,w',rfl,⟨t,rfl⟩,⟨t',rfl⟩⟩:=J4z r
 refine max_two_ints (I.ok.hd hc) fun h' tk k=>⟨_,H,I.kept k,?_,q⟩
 by_cases hj:j > i
 ·rw [if_pos hj,if_pos hj]; exact ⟨_,rfl⟩
 ·rw [if_neg hj,if_neg hj]; exact ⟨_,rfl⟩
theorem Z9m (hc:X.calm=true):Z4l X (.builtin "min") (fun xs H Q=>∃ i j,xs=[.int i,.int j]∧Q (.int (if j < i then j else i)) H):=by
 intro pins s σ H xs us Q I r h
 obtain ⟨i,j,rfl,q⟩:=h
 obtain ⟨u,w',rfl,⟨t,rfl⟩,⟨t',rfl⟩⟩:=J4z r
 refine min_two_ints (I.ok.hd hc) fun h' tk k=>⟨_,H,I.kept k,?_,q⟩
 by_cases hj:j < i
 ·rw [if_pos hj,if_pos hj]; exact ⟨_,rfl⟩
 ·rw [if_neg hj,if_neg hj]; exact ⟨_,rfl⟩
end
end L2
namespace L2
open PySem PySem.Spec PyProof.Rows
structure ObjM (h:Heap) (x dx C:Addr) (mA:Str→Option Value):Prop where
 obj:h.get? x=some (W.instObj C dx)
 ns:h.Ns1 dx mA
 ne:dx≠x
theorem Z9q {h:Heap} {dx:Addr} {mA:Str→Option Value} (n:h.Ns1 dx mA):∃ od,h.get? dx=some od∧∀ name,W.lookIn name od=some (mA name):=by
 obtain ⟨o,es,ep,ho,hd,hk,_,hm⟩:=n
 refine ⟨o,ho,fun name=>?_⟩
 have e:=hm name
 unfold nsFind findBy at e
 rw [← Array.find?_toList] at e
 unfold W.lookIn
 rw [hd]
 dsimp only
 split
 ·rename_i y q
  rw [q] at e
  exact congrArg some e
 ·rename_i q
  rw [q] at e
  have a:es.toList.any (·.refKey)=false:=by
   rw [List.any_eq_false]
   intro y hy
   obtain ⟨z,t,hkey⟩:=hk y (Array.mem_toList_iff.mp hy)
   simp [DictEntry.refKey,hkey]
  have a':¬ es.toList.any (·.refKey)=true:=by rw [a]; exact Bool.false_ne_true
  rw [if_neg a']
  exact congrArg some e
theorem ObjM.look {h:Heap} {x dx C:Addr} {mA:Str→Option Value} (I:ObjM h x dx C mA):∃ od,W.InstAt h x (W.instObj C dx) C (some od)∧∀ name,W.lookIn name od=some (mA name):=
 let ⟨od,ho,hl⟩:=Z9q I.ns
 ⟨od,⟨I.obj,rfl,rfl,ho⟩,hl⟩
section
variable {prog:Program} {w:World} {A:Around} {E:Value→Shared→Prop} {s:Shared} {K:W.Frag} {x dx C f:Addr} {mA:Str→Option Value} {name:Str} {v:Value}
theorem J1Y {expr:Bool} {Q:Value→Shared→Prop} (X:K.In s.heap) (I:ObjM s.heap x dx C mA) (hg:W.plainGet K C name=true) (hh:W.hasDictIn K C=true)
  (ha:W.findIn K (.ref C) name=some none) (hv:mA name=some v) (hv':W.handedIn v=true) (h:Q v { s with toks:=s.toks+1 }) :
  wpAny (model prog w) A (getAttr (.ref x) name expr) Q E s:=by
 obtain ⟨od,J,hl⟩:=I.look
 exact W.get_value X J (W.plainGet_of hg).1 (W.findObj_own hh ha rfl (by rw [hl,hv])) hv' h
theorem J0R {pl:Sem Bool} {Q:Value×List Value→Shared→Prop} (X:K.In s.heap) (I:ObjM s.heap x dx C mA) (hg:W.plainGet K C name=true)
  (hf:W.findIn K (.ref C) name=some (some (.ref f))) (ht:W.isFn K (.ref f)=true) (hv:mA name=none) (h:Q (.ref f,[.ref x]) s) :
  wpAny (model prog w) A (getMethod (.ref x) name pl) Q E s:=by
 obtain ⟨od,J,hl⟩:=I.look
 exact W.method_fn X J (W.plainGet_of hg).1 (W.plainGet_of hg).2 hf (beq_iff_eq.mp ht) (by show (W.lookIn name od).map (·.isSome)=some false; rw [hl,hv]; rfl) h
theorem J1Z {ns:List Str} {Q:Unit→Shared→Prop} (X:K.In s.heap) (I:ObjM s.heap x dx C mA)
  (hs:W.findIn K (.ref C) "__setattr__"=some (some (.builtin "object.__setattr__"))) (hp:W.plainOver K C=true) (ht:W.takerIn K C name=some none) (hh:W.hasDictIn K C=true)
  (hw:PySem.Within mA ns) (hsz:ns.length≤sizeLine)
  (h:∀ h',ObjM h' x dx C (fun y=>if y=name then some v else mA y)→Heap.SameBut dx s.heap h'→Q () { s with heap:=h',toks:=s.toks+2 }) :
  wpAny (model prog w) A (setAttr (.ref x) name v) Q E s:=by
 obtain ⟨od,J,hl⟩:=I.look
 refine W.set_plain X J hs (W.osa_open (s:={ s with toks:=s.toks+1 }) (r:=none) X J hp ht fun b=>?_)
 obtain ⟨cd,hc,hd'⟩:=W.any_some hh
 have hx:s.heap.get? x=some ⟨.ref C,some dx,.plain,#[]⟩:=I.obj
 refine wpAny_bind (wpAny_pure (wpAny_bind (wpAny_bind (wpAny_loadPart hx (wpAny_bind (W.Looks.here (s:={ s with toks:=s.toks+1 }) (W.looks_clsIn X hc) ?_))))))
 rw [hd']
 refine wpAny_pure (a:=some dx) (wpAny_bind (wpAny_pure (wpAny_bind ?_)))
 refine wpAny_nsSet1 (s:={ s with toks:=s.toks+1 }) I.ns fun h' hn2 hs2=>?_
 obtain ⟨oD,esD,epD,hoD,hdD,hcD⟩:=hn2.count (PySem.Within.cons name v hw)
 refine wpAny_bind (wpAny_lookBehind hoD (by rw [hdD]; exact pastItsLine_dict (Nat.le_trans hcD (by rw [List.length_cons]; omega))) ?_)
 exact wpAny_pure (h _ ⟨(hs2.2 _ (Ne.symm I.ne)).trans I.obj,hn2,I.ne⟩ hs2)
theorem Z7A {R:Result→Shared→Prop} {vs:List Value} {kw:List (Str×Value)} (X:K.In s.heap) (hm:W.makesIn K C=true)
  (hi:W.findIn K (.ref C) "__init__"=some (some (.ref f))) (hf:W.typeIn K (.ref f)=some (.type "function"))
  (h:codeAny (model prog w) (A.under (.builtin "type.__call__" ⟨.ref C::vs,kw⟩)) (.call (.ref f) ⟨.ref (s.heap.objs.size+1)::vs,kw⟩) (W.InitBack (s.heap.objs.size+1) R)
   { s with heap:=(s.heap.push W.emptyDict).push (W.instObj C s.heap.objs.size) }) :
  codeAny (model prog w) A (.call (.ref C) ⟨vs,kw⟩) R s:=by
 obtain ⟨hh,g,d,t,os⟩:=s
 exact W.make_core (W.makes_of X hm) (W.looks_findIn X hi) (fun self=>W.bind_fn X self hf) (.inl rfl) h
end
def putF (f:Str) (v:V):List (Str×V)→List (Str×V)
 | []=>[(f,v)]
 | (g,x)::r=>if g=f then (g,v)::r else (g,x)::putF f v r
theorem Z4s (f g:Str) (v:V):∀ fs:List (Str×V),(putF f v fs).lookup g=if g=f then some v else fs.lookup g
 | []=>by
  show List.lookup g [(f,v)]=_
  by_cases h:g=f
  ·have hb:(g == f)=true:=beq_iff_eq.mpr h
   simp only [List.lookup,hb,if_pos h]
  ·have hb:(g == f)=false:=beq_eq_false_iff_ne.mpr h
   simp only [List.lookup,hb,if_neg h]
 | (k,x)::r=>by
  have ih:=Z4s f g v r
  rw [show putF f v ((k,x)::r)=(if k=f then (k,v)::r else (k,x)::putF f v r) from rfl]
  by_cases hk:k=f
  ·rw [if_pos hk]
   by_cases h:g=k
   ·have hb:(g == k)=true:=beq_iff_eq.mpr h
    simp only [List.lookup,hb,if_pos (h.trans hk)]
   ·have hb:(g == k)=false:=beq_eq_false_iff_ne.mpr h
    simp only [List.lookup,hb,if_neg (fun e:g=f=>h (e.trans hk.symm))]
  ·rw [if_neg hk]
   by_cases h:g=k
   ·have hb:(g == k)=true:=beq_iff_eq.mpr h
    simp only [List.lookup,hb,if_neg (fun e:g=f=>hk (h.symm.trans e))]
   ·have hb:(g == k)=false:=beq_eq_false_iff_ne.mpr h
    simp only [List.lookup,hb]
    exact ih
theorem Z4p (f:Str) (v:V):∀ fs:List (Str×V),f∈(putF f v fs).map (·.1)∧∀ g,g∈fs.map (·.1)→g∈(putF f v fs).map (·.1)
 | []=>⟨by simp [putF],fun g h=>by simp at h⟩
 | (k,x)::r=>by
  obtain ⟨i1,i2⟩:=Z4p f v r
  rw [show putF f v ((k,x)::r)=(if k=f then (k,v)::r else (k,x)::putF f v r) from rfl]
  by_cases hk:k=f
  ·rw [if_pos hk]
   subst hk
   exact ⟨by simp,fun g h=>by simpa using h⟩
  ·rw [if_neg hk]
   refine ⟨?_,fun g h=>?_⟩
   ·rw [List.map_cons]
    exact List.mem_cons_of_mem _ i1
   ·rw [List.map_cons] at h ⊢
    rcases List.mem_cons.mp h with e | e
    ·exact List.mem_cons.mpr (.inl e)
    ·exact List.mem_cons_of_mem _ (i2 g e)
theorem Z4q (f:Str) (v:V):∀ fs:List (Str×V),(putF f v fs).length≤fs.length+1
 | []=>by simp [putF]
 | (k,x)::r=>by
  have ih:=Z4q f v r
  rw [show putF f v ((k,x)::r)=(if k=f then (k,v)::r else (k,x)::putF f v r) from rfl]
  by_cases hk:k=f
  ·rw [if_pos hk,List.length_cons,List.length_cons]; omega
  ·rw [if_neg hk,List.length_cons,List.length_cons]; omega
theorem RelO.some_of {v:V} {o:Option Value} (r:RelO (some v) o):∃ u,o=some u∧RelV v u:=by
 cases o with
 | none=>exact (show False from r).elim
 | some u=>exact ⟨u,rfl,r⟩
theorem RelO.none_of {o:Option Value} (r:RelO none o):o=none:=by
 cases o with
 | none=>rfl
 | some u=>exact (show False from r).elim
theorem Z8n {v:V} {u:Value} (r:RelV v u):W.handedIn u=true:=by
 cases v with
 | non=>cases (show u=Value.none from r); rfl
 | bl b=>cases (show u=Value.bool b from r); rfl
 | int i=>obtain ⟨t,e⟩:=(show ∃ t,u=Value.int i t from r); cases e; rfl
 | str x=>obtain ⟨t,e⟩:=(show ∃ t,u=Value.str x t from r); cases e; rfl
 | byt b=>obtain ⟨t,e⟩:=(show ∃ t,u=Value.bytes b t from r); cases e; rfl
 | flt b=>obtain ⟨t,e⟩:=(show ∃ t,u=Value.float b t from r); cases e; rfl
 | ref a=>cases (show u=Value.ref a from r); rfl
 | ty n=>cases (show u=Value.type n from r); rfl
section
variable {P:Program} {w:World} {H H':Hp} {h h':Heap} {a C dx:Addr} {fs fs':List (Str×V)}
theorem Z5u (hok:HOk P w H h) (e:H a=some (.ins C dx fs)):∃ mA,ObjM h a dx C mA∧(∀ f,RelO (fs.lookup f) (mA f))∧PySem.Within mA (fs.map (·.1))∧fs.length≤1000∧H dx=some (.own a):=by
 obtain ⟨d,z,ne,ob,mA,n,r,q⟩:=(show ObjOk P w H h a (.ins C dx fs) from hok a _ e)
 exact ⟨mA,⟨ob,n,ne⟩,r,q,z,d⟩
end
structure Cls (K:W.Frag) (C:Addr):Prop where
 pg:W.plainGet K C Str.empty=true
 hd:W.hasDictIn K C=true
 po:W.plainOver K C=true
 sa:W.findIn K (.ref C) "__setattr__"=some (some (.builtin "object.__setattr__"))
theorem Cls.get {K:W.Frag} {C:Addr} (c:Cls K C) (f:Str):W.plainGet K C f=true:=c.pg
def NoAttr (K:W.Frag) (C:Addr) (f:Str):Prop:=W.findIn K (.ref C) f=some none
theorem NoAttr.taker {K:W.Frag} {C:Addr} {f:Str} (n:NoAttr K C f):W.takerIn K C f=some none:=by
 unfold W.takerIn
 rw [show W.findIn K (.ref C) f=some none from n]
 rfl
structure Con (K:W.Frag) (C:Addr) (f:Str) (v:V) (u:Value):Prop where
 at_:W.findIn K (.ref C) f=some (some u)
 rel:RelV v u
 get:W.specialIn K u "__get__"=some none
 cp:W.copiedNames.contains f=false
structure Meth (K:W.Frag) (C:Addr) (m:Str) (f:Addr):Prop where
 at_:W.findIn K (.ref C) m=some (some (.ref f))
 fn:W.isFn K (.ref f)=true
 kp:W.keepIn K (.ref f)=true
section
variable {X:Cx} {pins:List (Addr×Obj)} {σ:St} {H:Hp} {s:Shared} {a C dx:Addr} {fs:List (Str×V)} {f:Str} {v:V} {A:Around} {E:Value→Shared→Prop}
theorem Z4Y {b:Bool} {Q:Value→Shared→Prop} (I:Inv X pins σ H s) (e:H a=some (.ins C dx fs)) (c:Cls X.K C) (n:NoAttr X.K C f) (l:fs.lookup f=some v)
  (h:∀ u s',Inv X pins σ H s'→RelV v u→Q u s'):wpAny (model X.prog X.w) A (getAttr (.ref a) f b) Q E s:=by
 obtain ⟨mA,O,r,_,_,_⟩:=Z5u I.hok e
 obtain ⟨u,hu,ru⟩:=RelO.some_of (v:=v) (o:=mA f) (by rw [← l]; exact r f)
 exact J1Y I.kIn O (c.get f) c.hd n hu (Z8n ru) (h u _ (I.tok _) ru)
theorem Z3F {m:Str} {g:Addr} {pl:Sem Bool} {Q:Value×List Value→Shared→Prop} (I:Inv X pins σ H s) (e:H a=some (.ins C dx fs)) (c:Cls X.K C) (k:Meth X.K C m g) (l:fs.lookup m=none)
  (h:Q (.ref g,[.ref a]) s):wpAny (model X.prog X.w) A (getMethod (.ref a) m pl) Q E s:=by
 obtain ⟨mA,O,r,_,_,_⟩:=Z5u I.hok e
 have hn:mA m=none:=RelO.none_of (by rw [← l]; exact r m)
 exact J0R I.kIn O (c.get m) k.at_ k.fn hn h
theorem Z4Q {y:V} {u:Value} {Q:Unit→Shared→Prop} (I:Inv X pins σ H s) (e:H a=some (.ins C dx fs)) (c:Cls X.K C) (n:NoAttr X.K C f) (hl:fs.length < 1000) (ry:RelV y u)
  (h:∀ s',Inv X pins σ (upd H a (.ins C dx (putF f y fs))) s'→Q () s'):wpAny (model X.prog X.w) A (setAttr (.ref a) f u) Q E s:=by
 obtain ⟨mA,O,r,wi,_,ho⟩:=Z5u I.hok e
 have hz:(fs.map (·.1)).length≤sizeLine:=by rw [List.length_map,sizeLine_eq]; omega
 refine J1Z I.kIn O c.sa c.po n.taker c.hd wi hz fun h' O' sb=>h _ ?_
 have hd:∃ o,h'.get? dx=some o:=let ⟨o,_,_,e',_⟩:=O'.ns; ⟨o,e'⟩
 refine I.write (x:=a) (e:=dx) (by rw [e]; exact True.intro) (.inr ho) (fun b q hb z=>(sb.2 b hb).trans z) hd ?_
 refine ⟨by rw [Z0h O.ne]; exact ho,?_,O.ne,O'.obj,_,O'.ns,fun g=>?_,fun g hg=>?_⟩
 ·have:=Z4q f y fs; omega
 ·show RelO ((putF f y fs).lookup g) (if g=f then some u else mA g)
  rw [Z4s]
  by_cases q:g=f
  ·rw [if_pos q,if_pos q]; exact ry
  ·rw [if_neg q,if_neg q]; exact r g
 ·by_cases q:g=f
  ·rw [q]; exact (Z4p f y fs).1
  ·refine (Z4p f y fs).2 g (wi g fun z=>hg ?_)
   show (if g=f then some u else mA g)=none
   rw [if_neg q]; exact z
theorem Inv.made (I:Inv X pins σ H s):Inv X pins σ (upd (upd H s.heap.objs.size (.own (s.heap.objs.size+1))) (s.heap.objs.size+1) (.ins C s.heap.objs.size []))
  { s with heap:=(s.heap.push W.emptyDict).push (W.instObj C s.heap.objs.size) }:=by
 have e1:(s.heap.push W.emptyDict).get? s.heap.objs.size=some W.emptyDict:=Heap.get?_push_size s.heap rfl
 have e2:((s.heap.push W.emptyDict).push (W.instObj C s.heap.objs.size)).get? (s.heap.objs.size+1)=some (W.instObj C s.heap.objs.size):=by
  have:=Heap.get?_push_size (s.heap.push W.emptyDict) (o:=W.instObj C s.heap.objs.size) rfl
  rwa [Heap.size_push] at this
 have e3:(s.heap.push W.emptyDict).Ns s.heap.objs.size (fun _=>none):=⟨W.emptyDict,#[],_,e1,rfl,(fun e he=>absurd he (by simp)),fun _=>rfl⟩
 have I1:=I.laid (a:=s.heap.objs.size) (o:=.own (s.heap.objs.size+1)) (h':=s.heap.push W.emptyDict) (t':=s.toks) (fun b u q=>Heap.get?_push_of_some _ q) (Nat.le_refl _) ⟨_,e1⟩
 refine I1.laid (a:=s.heap.objs.size+1) (o:=.ins C s.heap.objs.size []) (t':=s.toks) (fun b u q=>Heap.get?_push_of_some _ q) (Nat.le_of_eq (Heap.size_push _ _)) ?_
 have ne:s.heap.objs.size≠s.heap.objs.size+1:=Nat.ne_of_lt (Nat.lt_succ_self _)
 refine ⟨by rw [Z0h ne,Z0e],Nat.zero_le _,ne,e2,fun _=>none,(Heap.Ns1.of_empty e3).at fun o q=>Heap.get?_push_of_some _ q,fun _=>True.intro,fun y hy=>absurd rfl hy⟩
theorem J2d {prog:Program} {w:World} {env:Env} {e:Expr} {f:Str} {pos:Pos} {s:Shared} {Q:Value→Shared→Prop} (hb:attributeBase e f env (eval e env)=eval e env)
  (h:wpAny (model prog w) A (eval e env) (fun o s₁=>wpAny (model prog w) A (getAttr o f true) Q E s₁) E s):wpAny (model prog w) A (eval (.Attribute e f pos) env) Q E s:=
 Attribute_any_ h (by rw [arm_eval_Attribute,hb])
end
def tFld (K:W.Frag) (ta:TE) (f:Str):TE:=fun σ H Q=>ta σ H fun x H1=>∃ a C dx fs v,x=.ref a∧H1 a=some (.ins C dx fs)∧Cls K C∧NoAttr K C f∧fs.lookup f=some v∧Q v H1
def tCon (K:W.Frag) (ta:TE) (f:Str):TE:=fun σ H Q=>ta σ H fun x H1=>∃ a C dx fs v u,x=.ref a∧H1 a=some (.ins C dx fs)∧Cls K C∧Con K C f v u∧fs.lookup f=none∧Q v H1
def sFld (K:W.Frag) (ta tv:TE) (f:Str):TS:=fun D σ H=>tv σ H fun y H1=>ta σ H1 fun x H2=>∃ a C dx fs,x=.ref a∧H2 a=some (.ins C dx fs)∧Cls K C∧NoAttr K C f∧fs.length < 1000 ∧
 D.nx σ (upd H2 a (.ins C dx (putF f y fs)))
def InOp (X:Cx) (op:Operator) (rd:V→V→Hp→VK→Prop):Prop:=
 ∀ (pins:List (Addr×Obj)) (s:Shared) (σ:St) (H:Hp) (x y:V) (u v:Value) (Q:VK),Inv X pins σ H s→RelV x u→RelV y v→rd x y H Q→wpAny (model X.prog X.w) X.A (inplaceOp op u v) (EP X pins σ Q) X.xe s
def J2f (K:W.Frag) (ta tv:TE) (rd:V→V→Hp→VK→Prop) (f:Str):TS:=fun D σ H=>ta σ H fun x H1=>∃ a C dx fs v,x=.ref a∧H1 a=some (.ins C dx fs)∧Cls K C∧NoAttr K C f∧fs.lookup f=some v ∧
 tv σ H1 fun y H2=>rd v y H2 fun z H3=>∃ dx' fs',H3 a=some (.ins C dx' fs')∧fs'.length < 1000∧D.nx σ (upd H3 a (.ins C dx' (putF f z fs')))
section
variable {X:Cx} {o e value:Expr} {f:Str} {pos pos' tpos:Pos} {ta tv:TE}
theorem J3c {pl:Sem Bool} {m:Str} {apos:Pos} {args:List Expr} {pins:List (Addr×Obj)} {s:Shared} {σ:St} {H:Hp} {Q:Value→Shared→Prop} {te:TE} (he:PE X e te) (I:Inv X pins σ H s)
  (h:te σ H fun x H1=>∃ a C dx fs g,x=.ref a∧H1 a=some (.ins C dx fs)∧Cls X.K C∧Meth X.K C m g∧fs.lookup m=none ∧
   ∀ s1,Inv X pins σ H1 s1→wpAny (model X.prog X.w) X.A (callWith pos (.ref g) [.ref a] (backTo pos (starEach args X.env)) (backToKw pos (keywordEach [] X.env))) Q X.xe s1)
  (ht:eval (.Call (.Attribute e m apos) args [] pos) X.env=(do
   let ov ← eval e X.env
   standAt apos.atName
   let (f,first) ← holding [ov] (getMethod ov m pl)
   callWith pos f first (backTo pos (starEach args X.env)) (backToKw pos (keywordEach [] X.env)))) :
  wpAny (model X.prog X.w) X.A (eval (.Call (.Attribute e m apos) args [] pos) X.env) Q X.xe s:=by
 refine W.methodCall_KW (pl:=pl) (thn (he pins s σ H _ I h) fun u s1 hz_=>?_) ht
 obtain ⟨x,H1,I1,rx,a,C,dx,fs,g,ex,ea,c,k,l,q⟩:=hz_
 subst ex
 obtain rfl:u=Value.ref a:=rx
 exact Z3F I1 ea c k l (q s1 I1)
end
section
variable {X:Cx} {pins:List (Addr×Obj)} {σ:St} {H:Hp} {s:Shared} {A:Around} {E:Value→Shared→Prop} {Q:Value→Shared→Prop} {c:Value} {b:Bool}
inductive TyOf (K:W.Frag) (H:Hp):V→Value→Prop where
 | non:TyOf K H .non (.type "NoneType")
 | bl (x:Bool):TyOf K H (.bl x) (.type "bool")
 | int (i:Int):TyOf K H (.int i) (.type "int")
 | str (x:Str):TyOf K H (.str x) (.type "str")
 | flt (x:UInt64):TyOf K H (.flt x) (.type "float")
 | lst {a:Addr} {xs:List V} (e:H a=some (.lst xs)):TyOf K H (.ref a) (.type "list")
 | frz {a:Addr} {o:Obj} {xs:List V} (e:H a=some (.frz o (.lst xs))):TyOf K H (.ref a) (.type "list")
 | tup {a:Addr} {xs:List V} (e:H a=some (.tup xs)):TyOf K H (.ref a) (.type "tuple")
 | dK {a:Addr} {kvs:List (Key×V)} (e:H a=some (.dK kvs)):TyOf K H (.ref a) (.type "dict")
 | dT {a:Addr} {kvs:List (List Key×V)} (e:H a=some (.dT kvs)):TyOf K H (.ref a) (.type "dict")
 | ins {a C dx:Addr} {fs:List (Str×V)} (e:H a=some (.ins C dx fs)) (cl:Cls K C) (ha:W.findIn K (.ref C) "__class__"=some (some (.builtin "object.__class__")))
   (hn:W.specialIn K (.builtin "object.__class__") "__get__"=some (some (.builtin "getset_descriptor.__get__"))) (htk:W.takesIn K (.builtin "object.__class__")=some true)
   (hm:W.mroIn K C (.type "object")=some true):TyOf K H (.ref a) (.ref C)
theorem Z8T {x:V} {u t:Value} (I:Inv X pins σ H s) (rx:RelV x u) (ty:TyOf X.K H x t) (e:W.kitOne X.K t c=some b) (h:∀ tk,Q (.bool b) { s with toks:=tk }) :
  wpAny (model X.prog X.w) A (call (.builtin "isinstance") [u,c]) Q E s:=by
 cases ty with
 | non=>cases (show u=Value.none from rx); exact W.kia_one W.kitx_none I.kIn True.intro e (fun z=>nomatch z) h
 | bl y=>cases (show u=Value.bool y from rx); exact W.kia_one W.kitx_bool I.kIn True.intro e (fun z=>nomatch z) h
 | int i=>obtain ⟨t,q⟩:=(show ∃ t,u=Value.int i t from rx); cases q; exact W.kia_one W.kitx_int I.kIn True.intro e (fun z=>nomatch z) h
 | str y=>obtain ⟨t,q⟩:=(show ∃ t,u=Value.str y t from rx); cases q; exact W.kia_one W.kitx_str I.kIn True.intro e (fun z=>nomatch z) h
 | flt y=>obtain ⟨t,q⟩:=(show ∃ t,u=Value.float y t from rx); cases q; exact W.kia_one W.kitx_float I.kIn True.intro e (fun z=>nomatch z) h
 | @lst a xs ea=>
  cases (show u=Value.ref a from rx)
  obtain ⟨_,_,n,_,h1⟩:=(show ObjOk X.prog X.w H s.heap a (.lst xs) from I.hok a _ ea)
  exact W.kia_one W.kitx_list I.kIn ⟨_,h1,rfl⟩ e (fun z=>nomatch z) h
 | @frz a ob xs ea=>
  cases (show u=Value.ref a from rx)
  obtain ⟨_,_,_,n,_,h1⟩:=(show ObjOk X.prog X.w H s.heap a (.frz ob (.lst xs)) from I.hok a _ ea)
  exact W.kia_one W.kitx_list I.kIn ⟨_,h1,rfl⟩ e (fun z=>nomatch z) h
 | @tup a xs ea=>
  cases (show u=Value.ref a from rx)
  obtain ⟨_,_,_,p⟩:=(show ObjOk X.prog X.w H s.heap a (.tup xs) from I.hok a _ ea)
  obtain ⟨o,h1,h2,_⟩:=p
  exact W.kia_one W.kitx_tuple I.kIn ⟨o,h1,h2⟩ e (fun z=>nomatch z) h
 | @dK a kvs ea=>
  cases (show u=Value.ref a from rx)
  obtain ⟨_,_,vs,_,p⟩:=(show ObjOk X.prog X.w H s.heap a (.dK kvs) from I.hok a _ ea)
  obtain ⟨o,es,ep,h1,h2,_⟩:=p
  exact W.kia_one W.kitx_dict I.kIn ⟨o,h1,h2.1⟩ e (fun z=>nomatch z) h
 | @dT a kvs ea=>
  cases (show u=Value.ref a from rx)
  obtain ⟨_,_,xs,_,o,es,ep,h1,h2,_⟩:=(show ObjOk X.prog X.w H s.heap a (.dT kvs) from I.hok a _ ea)
  exact W.kia_one W.kitx_dict I.kIn ⟨o,h1,h2.1⟩ e (fun z=>nomatch z) h
 | @ins a C dx fs ea cl ha hn htk hm=>
  cases (show u=Value.ref a from rx)
  obtain ⟨mA,O,_⟩:=Z5u I.hok ea
  obtain ⟨od,J,_⟩:=O.look
  exact W.kia_one (W.kitx_own (cl.get _) cl.hd ha hn htk hm) I.kIn J e (fun z=>nomatch z) h
end
end L2
namespace L2
open PySem PySem.Spec PyProof.Rows
structure Room (k:Nat) (A:Around):Prop where
 hd:A.handled=none
 dp:A.depth+3 * k+5 < recursionLimit
 un:A.units+16 * k+200 < cLine
 gd:A.guards=some []
theorem Room.mono {j k:Nat} {A:Around} (r:Room k A) (h:j≤k):Room j A:=⟨r.hd,by have:=r.dp; omega,by have:=r.un; omega,r.gd⟩
theorem Room.deeper {k:Nat} {A:Around} (r:Room (k+1) A) (env:Env):Room k (A.deeper env):=
 ⟨r.hd,by have:=r.dp; show A.depth+1+3 * k+5 < _; omega,by have:=r.un; show A.units+3+16 * k+200 < _; omega,r.gd⟩
theorem Z7L {A:Around} {C:Addr} {us:List Value} {kw:List (Str×Value)}:(A.under (.builtin "type.__call__" ⟨.ref C::us,kw⟩)).depth=A.depth+1:=by
 first | rfl | simp [Around.under,Code.weight,Code.isCreation,Code.isGuard,Code.isCaller,Code.frames,Code.isFrame,guardIds]
theorem Z7I {A:Around} {C:Addr} {us:List Value} {kw:List (Str×Value)}:(A.under (.builtin "type.__call__" ⟨.ref C::us,kw⟩)).units=A.units+1:=by
 first | rfl | simp [Around.under,Code.cUnits,Code.frames,Code.isFrame]
theorem Room.make {k:Nat} {A:Around} (r:Room (k+1) A) (C:Addr) (us:List Value) (kw:List (Str×Value)):Room k (A.under (.builtin "type.__call__" ⟨.ref C::us,kw⟩)):=
 ⟨r.hd,by have:=r.dp; rw [Z7L]; omega,by have:=r.un; rw [Z7I]; omega,r.gd⟩
theorem Room.depth {k:Nat} {A:Around} (r:Room k A):A.depth < recursionLimit:=by have:=r.dp; omega
theorem Room.units {k:Nat} {A:Around} (r:Room k A):A.units+64 < cLine:=by have:=r.un; omega
def tNil:TA:=fun _ H Q=>Q [] H
def J3I (ta:TE) (tr:TA):TA:=fun σ H Q=>ta σ H fun x H1=>tr σ H1 fun xs H2=>Q (x::xs) H2
section
variable {X:Cx} {e:Expr} {es:List Expr} {te:TE} {t:TA} {pos:Pos}
theorem Z0b:PA X [] tNil:=fun _ _ _ _ H Q I h=>Calls.spliced_nil ⟨[],H,I,.nil,h⟩
theorem Z0a (ha:PE X e te) (hr:PA X es t) (hs:starEach (e::es) X.env=(false,eval e X.env)::starEach es X.env:=by rfl):PA X (e::es) (J3I te t):=by
 intro pos pins s σ H Q I h
 rw [hs]
 show wpAny _ _ (spliced ((false,eval e X.env)::backTo pos (starEach es X.env))) _ _ s
 refine Calls.spliced_cons (thn (ha pins s σ H _ I h) fun u s1 ⟨x,H1,I1,r1,q1⟩=>?_)
 exact thn (hr pos pins s1 σ H1 _ I1 q1) fun us s2 ⟨xs,H2,I2,r2,q2⟩=>⟨x::xs,H2,I2,.cons r1 r2,q2⟩
def tTup (t:TA):TE:=fun σ H Q=>t σ H fun xs H1=>xs.length≤sizeLine∧∀ p,H1 p=none→Q (.ref p) (upd H1 p (.tup xs))
def tLst (t:TA):TE:=fun σ H Q=>t σ H fun xs H1=>xs.length≤sizeLine∧∀ p,H1 p=none→Q (.ref p) (upd H1 p (.lst xs))
theorem Z0A {x1} (h:PA X es t):PE X (.Tuple es x1 pos) (tTup t):=by
 intro pins s σ H Q I hq
 refine wpAny_Tuple_spliced (thn (h pos pins s σ H _ I hq) fun us s1 ⟨xs,H1,I1,r,z,q⟩=>⟨by rw [← r.length]; exact z,?_⟩)
 have hf:H1 s1.heap.objs.size=none:=I1.hok.fresh (Nat.le_refl _)
 refine ⟨.ref s1.heap.objs.size,upd H1 s1.heap.objs.size (.tup xs),I1.laid (t':=s1.toks) (fun b u e=>Heap.get?_push_of_some _ e) (Nat.le_refl _) ?_,rfl,q _ hf⟩
 exact ⟨⟨z,Z4M⟩,us,r,⟨_,Heap.get?_push_size _ rfl,rfl,_,rfl⟩⟩
theorem Z0D (h:PA X es t):PE X (.List es pos) (tLst t):=by
 intro pins s σ H Q I hq
 refine wpAny_List_spliced (thn (h pos pins s σ H _ I hq) fun us s1 ⟨xs,H1,I1,r,z,q⟩=>⟨by rw [← r.length]; exact z,?_⟩)
 have hf:H1 s1.heap.objs.size=none:=I1.hok.fresh (Nat.le_refl _)
 refine ⟨.ref s1.heap.objs.size,upd H1 s1.heap.objs.size (.lst xs),I1.laid (t':=s1.toks) (fun b u e=>Heap.get?_push_of_some _ e) (Nat.le_refl _) ?_,rfl,q _ hf⟩
 exact ⟨z,us,0,r,Heap.get?_push_size _ rfl⟩
end
abbrev Sp:=List V→Hp→VK→XK→Prop
abbrev CXT:=List Env→Hp→Shared→XK→Value→Shared→Prop
structure Env0 (P:Program) (w:World) (K:W.Frag) (mg:Str→Option Value) (base:Heap) (A:Around) (outer:List Env) (s:Shared) (H:Hp):Prop where
 frames:A.frames=some outer
 mod:Mod K mg base
 bs:∀ b o,base.get? b=some o→s.heap.get? b=some o∧H b=none
 bsz:base.objs.size≤s.heap.objs.size
 funs:s.heap.FunFrames base outer
 frf:∀ b∈frs outer,H b=none
 hok:HOk P w H s.heap
 bare:AllBare s.gens
def CE (outer:List Env) (P:Program) (w:World) (H:Hp) (s:Shared) (Q:VK) (u:Value) (s':Shared):Prop:=
 ∃ v H',s'.os=s.os∧AllBare s'.gens∧Un (frs outer) [] H H' s.heap s'.heap∧HOk P w H' s'.heap∧RelV v u∧Q v H'
def CR (CX:CXT) (outer:List Env) (P:Program) (w:World) (H:Hp) (s:Shared) (Q:VK) (E:XK) (r:Result) (s':Shared):Prop:=
 match r with
 | .ok (.ret u)=>CE outer P w H s Q u s'
 | .ok _=>False
 | .error e=>CX outer H s E e s'
structure FnOk (P:Program) (w:World) (K:W.Frag) (mg:Str→Option Value) (base:Heap) (CX:CXT) (k:Nat) (f:Addr) (fd:FuncData) (ps:List Str) (sp:Sp):Prop where
 len:∀ vs H Q E,sp vs H Q E→vs.length=ps.length
 run:∀ (A:Around) (outer:List Env) (s:Shared) (H:Hp) (args:Args) (us:List Value) (vs:List V) (Q:VK) (E:XK),Room k A→Env0 P w K mg base A outer s H→BindsTo s fd args (ps.zip us)→Vals vs us→sp vs H Q E →
  codeAny (model P w) A (.call (.ref f) args) (CR CX outer P w H s Q E) s
theorem Env0.make {P:Program} {w:World} {K:W.Frag} {mg:Str→Option Value} {base:Heap} {A:Around} {outer:List Env} {s:Shared} {H:Hp} (e:Env0 P w K mg base A outer s H) (C:Addr) (us:List Value) (kw:List (Str×Value)) :
  Env0 P w K mg base (A.under (.builtin "type.__call__" ⟨.ref C::us,kw⟩)) outer s H:=⟨by first | exact e.frames | (simpa [Around.under,Code.envs,Code.isFrame,pushEnvs] using e.frames),e.mod,e.bs,e.bsz,e.funs,e.frf,e.hok,e.bare⟩
section
variable {X:Cx} {pins:List (Addr×Obj)} {σ:St} {H:Hp} {s s':Shared}
theorem Inv.env0 (I:Inv X pins σ H s):Env0 X.prog X.w X.K X.mg X.base X.A X.stack s H:=
 ⟨I.ok.frames,I.ok.mod,I.bs,Nat.le_trans I.ok.bsz I.sz,I.stack,I.stkFree,I.hok,I.bare⟩
theorem Inv.after {Q:VK} {u:Value} (I:Inv X pins σ H s) (h:CE X.stack X.prog X.w H s Q u s'):EP X pins σ Q u s':=by
 obtain ⟨v,H',os,bare,un,hok,r,q⟩:=h
 obtain ⟨hh,g,d,t,os'⟩:=s'
 obtain rfl:os'=s.os:=os
 exact ⟨v,H',I.call (h':=hh) (g':=g) (d':=d) (t':=t) (ch:=[]) un hok bare (fun b z=>absurd z (by simp)),r,q⟩
end
def J2y (sp:Sp) (dvs:List V) (E:XK) (t:TA):TE:=fun σ H Q=>t σ H fun vs H1=>sp (vs++dvs) H1 Q E
def Z9A (C:Addr) (m:Str) (sp:Sp) (dvs:List V) (E:XK) (ta:TE) (t:TA):TE:=fun σ H Q=>ta σ H fun x H1=>∃ a dx fs,x=.ref a∧H1 a=some (.ins C dx fs)∧fs.lookup m=none ∧
 t σ H1 fun vs H2=>sp (x::(vs++dvs)) H2 Q E
def J2X (C:Addr) (sp:Sp) (dvs:List V) (E:XK) (t:TA):TE:=fun σ H Q=>t σ H fun vs H1=>∀ x dx,H1 x=none→H1 dx=none→dx≠x →
 sp (.ref x::(vs++dvs)) (upd (upd H1 dx (.own x)) x (.ins C dx [])) (fun v H2=>v=.non∧Q (.ref x) H2) E
def Binds (K:W.Frag) (fd:FuncData) (ps:List Str) (ds:List Value):Prop:=
 ∀ (s:Shared) (us:List Value),K.In s.heap→(us++ds).length=ps.length→BindsTo s fd ⟨us,[]⟩ (ps.zip (us++ds))
theorem Binds.all {K:W.Frag} {fd:FuncData} {ps:List Str} (h:∀ us:List Value,us.length=ps.length→bindArgs fd ⟨us,[]⟩=pure (ps.zip us)):Binds K fd ps []:=fun s us _ hl=>by
 rw [List.append_nil] at hl ⊢
 exact .of_eq (h us hl)
def Z3x (CX:CXT) (X:Cx) (E:XK):Prop:=∀ (pins:List (Addr×Obj)) (σ:St) (H:Hp) (s:Shared) (e:Value) (s':Shared),Inv X pins σ H s→CX X.stack H s E e s'→X.xe e s'
section
variable {X:Cx} {CX:CXT} {k:Nat} {f C:Addr} {fd:FuncData} {ps:List Str} {sp:Sp} {dvs:List V} {ds:List Value} {E:XK} {x m:Str} {p pos apos:Pos} {e o:Expr} {es:List Expr} {ta:TE} {t:TA}
theorem Z9o {pins:List (Addr×Obj)} {σ:St} {H:Hp} {s:Shared} {Q:VK} {us:List Value} {vs:List V} (F:FnOk X.prog X.w X.K X.mg X.base CX k f fd ps sp) (hr:Room k X.A) (hb:Binds X.K fd ps ds) (hd:Vals dvs ds) (hx:Z3x CX X E)
  (I:Inv X pins σ H s) (r:Vals vs us) (h:sp (vs++dvs) H Q E):wpAny (model X.prog X.w) X.A (call (.ref f) us) (EP X pins σ Q) X.xe s:=by
 have r2:Vals (vs++dvs) (us++ds):=r.append hd
 have hl:(us++ds).length=ps.length:=by rw [← r2.length]; exact F.len _ _ _ _ h
 refine wpAny_call (codeAny_mono (F.run X.A X.stack s H ⟨us,[]⟩ (us++ds) (vs++dvs) Q E hr I.env0 (hb s us I.kIn hl) r2 h) fun r s' hq=>?_)
 cases r with
 | error e=>exact hx pins σ H s e s' I hq
 | ok fl=>
  cases fl with
  | ret u=>exact I.after hq
  | next=>exact False.elim hq
  | brk=>exact False.elim hq
  | cont=>exact False.elim hq
theorem J2Y (F:FnOk X.prog X.w X.K X.mg X.base CX k f fd ps sp) (hr:Room k X.A) (hg:Gl X x) (hm:X.mg x=some (.ref f)) (hk:W.keepIn X.K (.ref f)=true) (hb:Binds X.K fd ps ds) (hd:Vals dvs ds) (hx:Z3x CX X E)
  (ha:PA X (e::es) t) (hdb:(x == ("__debug__":Str))=false:=by decide) (he:starEach (e::es) X.env=(false,eval e X.env)::starEach es X.env:=by rfl) (hpl:(backTo pos (starEach es X.env)).any (·.1)=false:=by rfl) :
  PE X (.Call (.Name x p) (e::es) [] pos) (J2y sp dvs E t):=by
 intro pins s σ H Q I h
 refine wpAny_Call_Name_kw (Z5p I hg hm ?_ hdb)
 refine W.callWith_K (h₀:=X.base) I.ok.mod.kin hk (thn (ha pos pins s σ H _ I h) fun us s1 ⟨vs,H1,I1,r,q⟩=>⟨I1.kIn,?_⟩) he hpl
 exact Z9o F hr hb hd hx I1 r q
theorem J2M {pl:Sem Bool} (he:PE X o ta) (c:Cls X.K C) (hm:Meth X.K C m f) (F:FnOk X.prog X.w X.K X.mg X.base CX k f fd ps sp) (hr:Room k X.A) (hb:Binds X.K fd ps ds) (hd:Vals dvs ds) (hx:Z3x CX X E) (ha:PA X (e::es) t)
  (hst:starEach (e::es) X.env=(false,eval e X.env)::starEach es X.env:=by rfl) (hpl:(backTo pos (starEach es X.env)).any (·.1)=false:=by rfl)
  (ht:eval (.Call (.Attribute o m apos) (e::es) [] pos) X.env=(do
   let ov ← eval o X.env
   standAt apos.atName
   let (f,first) ← holding [ov] (getMethod ov m pl)
   callWith pos f first (backTo pos (starEach (e::es) X.env)) (backToKw pos (keywordEach [] X.env))):=by rfl) :
  PE X (.Call (.Attribute o m apos) (e::es) [] pos) (Z9A C m sp dvs E ta t):=by
 intro pins s σ H Q I h
 refine W.methodCall_KW (pl:=pl) (thn (he pins s σ H _ I h) fun u s1 hz_=>?_) ht
 obtain ⟨x,H1,I1,rx,a,dx,fs,ex,ea,l,q⟩:=hz_
 subst ex
 obtain rfl:u=Value.ref a:=rx
 refine Z3F I1 ea c hm l ?_
 refine W.callWith_K (first:=[.ref a]) (h₀:=X.base) I.ok.mod.kin hm.kp (thn (ha pos pins s1 σ H1 _ I1 q) fun us s2 ⟨vs,H2,I2,r,q2⟩=>⟨I2.kIn,?_⟩) hst hpl
 exact Z9o (us:=.ref a::us) (vs:=.ref a::vs) F hr hb hd hx I2 (.cons rfl r) q2
theorem J0M {pl:Sem Bool} (he:PE X o ta) (c:Cls X.K C) (hm:Meth X.K C m f) (F:FnOk X.prog X.w X.K X.mg X.base CX k f fd ps sp) (hr:Room k X.A) (hb:Binds X.K fd ps ds) (hd:Vals dvs ds) (hx:Z3x CX X E)
  (ht:eval (.Call (.Attribute o m apos) [] [] pos) X.env=(do
   let ov ← eval o X.env
   standAt apos.atName
   let (f,first) ← holding [ov] (getMethod ov m pl)
   callWith pos f first (backTo pos (starEach [] X.env)) (backToKw pos (keywordEach [] X.env))):=by rfl) :
  PE X (.Call (.Attribute o m apos) [] [] pos) (Z9A C m sp dvs E ta tNil):=by
 intro pins s σ H Q I h
 refine W.methodCall_KW (pl:=pl) (thn (he pins s σ H _ I h) fun u s1 hz_=>?_) ht
 obtain ⟨x,H1,I1,rx,a,dx,fs,ex,ea,l,q⟩:=hz_
 subst ex
 obtain rfl:u=Value.ref a:=rx
 refine Z3F I1 ea c hm l ?_
 exact W.callWith_K0 (first:=[.ref a]) I1.kIn hm.kp (Z9o (us:=[.ref a]) (vs:=[.ref a]) F hr hb hd hx I1 (.cons rfl .nil) q)
structure Mk (K:W.Frag) (C f:Addr):Prop where
 makes:W.makesIn K C=true
 init:W.findIn K (.ref C) "__init__"=some (some (.ref f))
 fn:W.isFn K (.ref f)=true
 kp:W.keepIn K (.ref C)=true
theorem J0Y {pins:List (Addr×Obj)} {σ:St} {H:Hp} {s:Shared} {Q:VK} {us:List Value} {vs:List V} (M:Mk X.K C f) (F:FnOk X.prog X.w X.K X.mg X.base CX k f fd ps sp) (hr:Room (k+1) X.A) (hb:Binds X.K fd ps ds) (hd:Vals dvs ds)
  (hx:Z3x CX X E) (I:Inv X pins σ H s) (r:Vals vs us)
  (h:∀ x dx,H x=none→H dx=none→dx≠x→sp (.ref x::(vs++dvs)) (upd (upd H dx (.own x)) x (.ins C dx [])) (fun v H2=>v=.non∧Q (.ref x) H2) E) :
  wpAny (model X.prog X.w) X.A (call (.ref C) us) (EP X pins σ Q) X.xe s:=by
 have hq:=h (s.heap.objs.size+1) s.heap.objs.size (I.hok.fresh (Nat.le_succ _)) (I.hok.fresh (Nat.le_refl _)) (Nat.ne_of_lt (Nat.lt_succ_self _))
 have I2:=Inv.made (C:=C) I
 have r2:Vals (V.ref (s.heap.objs.size+1)::(vs++dvs)) (Value.ref (s.heap.objs.size+1)::(us++ds)):=.cons rfl (r.append hd)
 have hl:(Value.ref (s.heap.objs.size+1)::us++ds).length=ps.length:=by
  have e:=r2.length
  rw [F.len _ _ _ _ hq] at e
  exact e.symm
 refine wpAny_call (Z7A (f:=f) I.kIn M.makes M.init (beq_iff_eq.mp M.fn) (codeAny_mono (F.run _ X.stack _ _ ⟨Value.ref (s.heap.objs.size+1)::us,[]⟩ (Value.ref (s.heap.objs.size+1)::(us++ds)) _ _ E (hr.make C us [])
  (I2.env0.make C us []) (hb _ (Value.ref (s.heap.objs.size+1)::us) I2.kIn hl) r2 hq) fun r s' hq'=>?_))
 cases r with
 | error e=>exact hx pins σ _ _ e s' I2 hq'
 | ok fl=>
  cases fl with
  | ret u=>
   obtain ⟨v,H',I3,rv,ev,q3⟩:=I2.after hq'
   subst ev
   exact ⟨rv,⟨V.ref (s.heap.objs.size+1),H',I3,rfl,q3⟩⟩
  | next=>exact False.elim hq'
  | brk=>exact False.elim hq'
  | cont=>exact False.elim hq'
theorem J1e (M:Mk X.K C f) (F:FnOk X.prog X.w X.K X.mg X.base CX k f fd ps sp) (hr:Room (k+1) X.A) (hg:Gl X x) (hm:X.mg x=some (.ref C)) (hb:Binds X.K fd ps ds) (hd:Vals dvs ds) (hx:Z3x CX X E)
  (hdb:(x == ("__debug__":Str))=false:=by decide):PE X (.Call (.Name x p) [] [] pos) (J2X C sp dvs E tNil):=by
 intro pins s σ H Q I h
 refine wpAny_Call_Name_kw (Z5p I hg hm ?_ hdb)
 exact W.callWith_K0 I.kIn M.kp (J0Y (us:=[]) M F hr hb hd hx I .nil h)
end
def PK (X:Cx) (kws:List Keyword) (t:TA):Prop:=
 ∀ (pos:Pos) (pins:List (Addr×Obj)) (s:Shared) (σ:St) (H:Hp) (Q:List V→Hp→Prop),Inv X pins σ H s→t σ H Q→wpAny (model X.prog X.w) X.A (evalAll ((backToKw pos (keywordEach kws X.env)).map (·.2))) (AP X pins σ Q) X.xe s
section
variable {X:Cx} {CX:CXT} {k:Nat} {f C:Addr} {fd:FuncData} {ps ks:List Str} {sp:Sp} {E:XK} {x m:Str} {p pos apos kpos:Pos} {e o:Expr} {es:List Expr} {kws:List Keyword} {te ta:TE} {t tk:TA} {nm:Option Str}
theorem J3q:PK X [] tNil:=fun _ _ _ _ H Q I h=>wpAny_evalAll_nil ⟨[],H,I,.nil,h⟩
structure Z9G (K:W.Frag) (fd:FuncData) (ps ks:List Str) (g:List Value→List Value→List Value) (gV:List V→List V→List V):Prop where
 to:∀ (s:Shared) (us ws:List Value),K.In s.heap→(g us ws).length=ps.length→BindsTo s fd ⟨us,ks.zip ws⟩ (ps.zip (g us ws))
 rel:∀ {vs:List V} {us:List Value} {zs:List V} {ws:List Value},Vals vs us→Vals zs ws→Vals (gV vs zs) (g us ws)
variable {g:List Value→List Value→List Value} {gV:List V→List V→List V}
end
structure Z0s (N P:List Str) (sc:Scope):Prop where
 kind:sc.kind=.function
 co:sc.isCoroutine=false
 gen:sc.isGenerator=false
 nd:N.Nodup
 pre:N.take P.length=P
 par:∀ x∈P,sc.names.lookup x=some .local∨sc.names.lookup x=some .cell
 nofree:∀ y∈sc.names,y.2≠.free
theorem Z5S {kindOf:Str→Option NameKind} {x:Str}:∀ {binds:List (Str×Value)} {m:Str→Option Value},(∀ v,(x,v)∉binds)→bindL kindOf binds m x=m x
 | [],_,_=>rfl
 | (n,v)::r,m,h=>by
  unfold bindL
  rw [Z5S fun w hw=>h w (List.mem_cons_of_mem _ hw)]
  split
  ·have:x≠n:=by rintro rfl; exact h v List.mem_cons_self
   simp [this]
  ·rfl
theorem Z5X {kindOf:Str→Option NameKind} {x:Str}:∀ {binds:List (Str×Value)} {m:Str→Option Value},(∀ v,(x,v)∉binds)→bindC kindOf binds m x=m x
 | [],_,_=>rfl
 | (n,v)::r,m,h=>by
  unfold bindC
  rw [Z5X fun w hw=>h w (List.mem_cons_of_mem _ hw)]
  split
  ·rfl
  ·have:x≠n:=by rintro rfl; exact h v List.mem_cons_self
   simp [this]
theorem Z6g {kindOf:Str→Option NameKind} {x:Str} {v:Value}:∀ {P:List Str} {vs:List Value} {i:Nat} {m:Str→Option Value},P.Nodup→P[i]?=some x→vs[i]?=some v→kindOf x=some .local →
  bindL kindOf (P.zip vs) m x=some v
 | [],_,_,_,_,h,_,_=>by simp at h
 | _::_,[],_,_,_,_,h,_=>by simp at h
 | p::P,w::vs,0,m,nd,h1,h2,hk=>by
  simp at h1 h2; subst h1; subst h2
  show bindL kindOf ((p,w)::P.zip vs) m p=_
  unfold bindL
  rw [Z5S fun v hv=>(List.nodup_cons.mp nd).1 (List.of_mem_zip hv).1,if_pos hk]
  simp
 | p::P,w::vs,i+1,m,nd,h1,h2,hk=>by
  show bindL kindOf ((p,w)::P.zip vs) m x=_
  unfold bindL
  exact Z6g (i:=i) (List.nodup_cons.mp nd).2 (by simpa using h1) (by simpa using h2) hk
theorem Z5N {kindOf:Str→Option NameKind} {x:Str} {v:Value}:∀ {P:List Str} {vs:List Value} {i:Nat} {m:Str→Option Value},P.Nodup→P[i]?=some x→vs[i]?=some v→kindOf x≠some .local →
  bindC kindOf (P.zip vs) m x=some v
 | [],_,_,_,_,h,_,_=>by simp at h
 | _::_,[],_,_,_,_,h,_=>by simp at h
 | p::P,w::vs,0,m,nd,h1,h2,hk=>by
  simp at h1 h2; subst h1; subst h2
  show bindC kindOf ((p,w)::P.zip vs) m p=_
  unfold bindC
  rw [Z5X fun v hv=>(List.nodup_cons.mp nd).1 (List.of_mem_zip hv).1,if_neg hk]
  simp
 | p::P,w::vs,i+1,m,nd,h1,h2,hk=>by
  show bindC kindOf ((p,w)::P.zip vs) m x=_
  unfold bindC
  exact Z5N (i:=i) (List.nodup_cons.mp nd).2 (by simpa using h1) (by simpa using h2) hk
def Z4i (N:List Str) (vs:List V):St:=vs.map some++List.replicate (N.length - vs.length) none
def cxOf (CX:CXT) (P:Program) (w:World) (K:W.Frag) (mg:Str→Option Value) (base:Heap) (N:List Str) (qual:Str) (scope:Scope) (f:Addr) (cd:Value) (A:Around) (outer:List Env) (s:Shared) (H:Hp) (E:XK):Cx where
 prog:=P
 w:=w
 K:=K
 mg:=mg
 base:=base
 A:=A.deeper (envOfC qual scope s.heap.objs.size f cd)
 N:=N
 s₀:=s
 H₀:=H
 env:=envOfC qual scope s.heap.objs.size f cd
 outer:=outer
 stack:=envOfC qual scope s.heap.objs.size f cd::outer
 ex:=[]
 calm:=true
 fn:=fun _=>true
 pn:=[]
 xe:=fun e s'=>wpAny (model P w) (A.deeper (envOfC qual scope s.heap.objs.size f cd)) (leaving (envOfC qual scope s.heap.objs.size f cd) e) (fun _ s''=>CX outer H s E e s'') (fun e' s''=>CX outer H s E e' s'') s'
theorem Z6Q {sc:Scope} {n:Nat} {x:Str} (h:sc.names.lookup x=some .cell):∃ c,(cellsFrom n sc.names []).lookup x=some c:=by
 have q:=W.cellsFrom_some sc.names n [] (.inl h)
 exact Option.isSome_iff_exists.mp q
theorem Z9S {CX:CXT} {P:Program} {w:World} {K:W.Frag} {mg:Str→Option Value} {base:Heap} {N ps:List Str} {qual:Str} {scope:Scope} {f:Addr} {cd:Value} {A:Around} {outer:List Env} {s s1:Shared} {H:Hp} {E:XK} {us:List Value} {vs:List V}
  (S:Z0s N ps scope) (hd:A.handled=none) (e0:Env0 P w K mg base A outer s H) (hl:vs.length=ps.length) (r:Vals vs us)
  (x:InCallC s s.heap.objs.size (bindL (envOfC qual scope s.heap.objs.size f cd).kindOf (ps.zip us) fun _=>none) (cellsFrom (s.heap.objs.size+1) scope.names []) (bindC (envOfC qual scope s.heap.objs.size f cd).kindOf (ps.zip us) fun _=>none) s1) :
  Inv (cxOf CX P w K mg base N qual scope f cd A outer s H E) [] (Z4i N vs) H s1:=by
 have hpl:ps.length≤N.length:=by have:=congrArg List.length S.pre; rw [List.length_take] at this; omega
 obtain ⟨h1,tk,rfl,hk⟩:=x.done
 have noA:∀ b:Addr,b∉(cxOf CX P w K mg base N qual scope f cd A outer s H E).ex:=fun b z=>absurd (show b∈([]:List Addr) from z) (by simp)
 refine ⟨⟨e0.mod,S.kind,rfl,rfl,Nat.le_refl _,fun y z c h1 h2=>?_,fun y hy=>?_,fun y c _ h=>?_,fun _=>hd,Around.frames_deeper e0.frames,.inr ⟨rfl,rfl⟩,fun b z=>absurd z (noA b),e0.bs,e0.bsz,fun b _ _=>noA b,fun b z=>absurd z (noA b),e0.funs,e0.frf⟩,
  rfl,e0.bare,Un.kept hk,⟨_,x.toInCall.ns,fun i y v h1 h2 h3=>?_⟩,fun y c h=>⟨_,x.cell y c h⟩,e0.hok.fresh (Nat.le_refl _),fun y c h=>?_,fun p hp=>absurd (show p∈([]:List (Addr×Obj)) from hp) (by simp),e0.hok.kept hk,?_⟩
 ·exact name_of_addr x.apart (PySem.mem_of_lookup h1) (PySem.mem_of_lookup h2)
 ·have hy:scope.names.lookup y=some .cell∨scope.names.lookup y=some .free:=hy
  rcases hy with hy | hy
  ·exact Z6Q hy
  ·exact absurd rfl (S.nofree _ (PySem.mem_of_lookup hy))
 ·exact Nat.le_of_lt (x.above y c (PySem.mem_of_lookup h))
 ·have hi:i < vs.length:=by
   unfold Z4i at h2
   by_cases hi:i < vs.length
   ·exact hi
   ·rw [List.getElem?_append_right (by simpa using hi)] at h2
    rw [List.getElem?_replicate] at h2
    split at h2 <;> cases h2
  have ha:vs[i]?=some v:=by
   unfold Z4i at h2
   rw [List.getElem?_append_left (by simpa using hi),List.getElem?_map] at h2
   cases e:vs[i]? with
   | none=>rw [e] at h2; cases h2
   | some a=>rw [e] at h2; cases h2; rfl
  obtain ⟨u,hu,rv⟩:=r.get ha
  have hp:ps[i]?=some y:=by
   rw [← S.pre,List.getElem?_take_of_lt (by omega)]; exact h1
  have ndP:ps.Nodup:=by rw [← S.pre]; exact S.nd.sublist (List.take_sublist _ _)
  refine ⟨u,rv,?_⟩
  rcases S.par y (List.mem_of_getElem? hp) with k | k
  ·exact .inl ⟨k,Z6g ndP hp hu k⟩
  ·obtain ⟨c,e⟩:=Z6Q (n:=s.heap.objs.size+1) k
   refine .inr ⟨.inl k,c,e,?_⟩
   have q:=x.cell y c e
   rw [Z5N ndP hp hu (by show scope.names.lookup y≠_; rw [k]; decide)] at q
   exact q
 ·exact e0.hok.fresh (Nat.le_of_lt (x.above y c (PySem.mem_of_lookup h)))
 ·unfold Z4i
  show _=N.length
  rw [List.length_append,List.length_map,List.length_replicate]
  omega
theorem J3z {CX:CXT} {P:Program} {w:World} {K:W.Frag} {mg:Str→Option Value} {base:Heap} {k:Nat} {f:Addr} {name qual:Str} {params:Arguments} {body:List Stmt} {scope:Scope} {dV kV doc pm cdv ct oc:Value} {an od:Option Addr}
  {osl:Array (Option Value)} {N ps:List Str} {sp:Sp} (lk:K.lookup f=some ⟨oc,od,.func (W.fnOf name qual params body scope dV kV doc pm an cdv ct),osl⟩) (hcd:W.codeIn K cdv qual=true) (S:Z0s N ps scope)
  (len:∀ vs H Q E,sp vs H Q E→vs.length=ps.length)
  (hbody:∀ (A:Around) (outer:List Env) (s:Shared) (H:Hp) (vs:List V) (Q:VK) (E:XK),Room k (A.deeper (envOfC qual scope s.heap.objs.size f cdv))→sp vs H Q E →
   ∃ t,PSs (cxOf CX P w K mg base N qual scope f cdv A outer s H E) body t∧t { nx:=fun _ H'=>Q .non H',rt:=Q } (Z4i N vs) H) :
  FnOk P w K mg base CX (k+1) f (W.fnOf name qual params body scope dV kV doc pm an cdv ct) ps sp:=by
 refine ⟨len,fun A outer s H args us vs Q E hr e0 hb r hsp=>?_⟩
 have hl:=len _ _ _ _ hsp
 have KX:K.In s.heap:=e0.mod.kin.keeps fun b o e=>(e0.bs b o e).1
 have lim:s.heap.NoLimit:=e0.mod.nolimit.keeps fun b o e=>(e0.bs b o e).1
 have hkind:∀ y∈ps.zip us,scope.names.lookup y.1=some .local∨(scope.names.lookup y.1=some .cell∧((cellsFrom (s.heap.objs.size+1) scope.names []).lookup y.1).isSome=true):=fun ⟨n,v⟩ hy=>by
  rcases S.par n (List.of_mem_zip hy).1 with q | q
  ·exact .inl q
  ·exact .inr ⟨q,W.cellsFrom_some _ _ _ (.inl q)⟩
 refine codeAny_call_function hr.depth (KX _ _ lk) rfl S.co S.gen rfl (W.codeRec_of KX hcd) (hb _ _ _ _ ?_)
 refine wpAny_newFunctionEnv_cells S.kind hkind fun env he s1 x=>?_
 subst he
 refine ⟨lim.keeps x.toInCall.keep,codeAny_func ?_⟩
 obtain ⟨t,ht,hq⟩:=hbody A outer s H vs Q E (hr.deeper _) hsp
 have I:Inv (cxOf CX P w K mg base N qual scope f cdv A outer s H E) [] (Z4i N vs) H s1:=Z9S S hr.hd e0 hl r x
 refine wpAny_mono (ht [] s1 (Z4i N vs) H _ I hq) (fun fl s' hs=>?_) fun e s' hs=>hs
 have fin:∀ {σ':St} {H':Hp} {v:V} {u:Value},Inv (cxOf CX P w K mg base N qual scope f cdv A outer s H E) [] σ' H' s'→RelV v u→Q v H'→CE outer P w H s Q u s':=
  fun {σ' H' v u} J rv q=>⟨v,H',J.os,J.bare,J.base,J.hok,rv,q⟩
 cases fl with
 | ret u=>
  obtain ⟨v,σ',H',J,rv,q⟩:=hs
  exact fin J rv q
 | next=>
  obtain ⟨σ',H',J,q⟩:=hs
  exact fin (v:=V.non) (u:=Value.none) J rfl q
 | brk=>
  obtain ⟨_,_,_,q⟩:=hs
  exact False.elim q
 | cont=>
  obtain ⟨_,_,_,q⟩:=hs
  exact False.elim q
end L2
namespace L2
open PySem PySem.Spec PyProof.Rows
section
variable {X:Cx} {x:Str} {p pos:Pos} {e:Expr} {es:List Expr} {t:TA} {id T:String} {r:List V→Hp→VK→Prop}
def tCB (r:List V→Hp→VK→Prop) (t:TA):TE:=fun σ H Q=>t σ H fun vs H1=>r vs H1 Q
theorem Z0q (hc:Z4l X (.builtin id) r) (hg:Gl X x) (hm:X.mg x=none) (hv:bootBuiltins x=some (.builtin id)) (ha:PA X (e::es) t) (hn:x≠"__name__":=by decide) (hdb:(x == ("__debug__":Str))=false:=by decide)
  (he:starEach (e::es) X.env=(false,eval e X.env)::starEach es X.env:=by rfl) (hpl:(backTo pos (starEach es X.env)).any (·.1)=false:=by rfl):PE X (.Call (.Name x p) (e::es) [] pos) (tCB r t):=by
 intro pins s σ H Q I h
 refine wpAny_Call_Name_kw (Z6J I hg hm hv ?_ hn hdb)
 exact PyProof.Rows.callWith_builtin1 (thn (ha pos pins s σ H _ I h) fun us s1 ⟨vs,H1,I1,r1,q1⟩=>hc pins s1 σ H1 vs us Q I1 r1 q1) he hpl
theorem Z1r (hc:Z4l X (.type T) r) (hg:Gl X x) (hm:X.mg x=none) (hv:bootBuiltins x=some (.type T)) (ha:PA X (e::es) t) (hn:x≠"__name__":=by decide) (hdb:(x == ("__debug__":Str))=false:=by decide)
  (he:starEach (e::es) X.env=(false,eval e X.env)::starEach es X.env:=by rfl) (hpl:(backTo pos (starEach es X.env)).any (·.1)=false:=by rfl):PE X (.Call (.Name x p) (e::es) [] pos) (tCB r t):=by
 intro pins s σ H Q I h
 refine wpAny_Call_Name_kw (Z6J I hg hm hv ?_ hn hdb)
 exact PyProof.Rows.callWith_type1 (thn (ha pos pins s σ H _ I h) fun us s1 ⟨vs,H1,I1,r1,q1⟩=>hc pins s1 σ H1 vs us Q I1 r1 q1) he hpl
end
end L2
namespace HT
open PySem PyProof.Rows
section
open PySem.SeqAt
open PySem.AutoSeq1 (wpAny_loadPart')
open PySem.MeetsSeq PySem.MeetsSeq2 PySem.MeetsSeq3
end
section
variable {prog:Program} {w:World} {A:Around} {E:Value→Shared→Prop} {s:Shared}
theorem cat_tup {t b:Addr} {vs ws:List Value} {Q:Value→Shared→Prop} (ht:IsTup s.heap t vs.toArray) (hb:IsTup s.heap b ws.toArray) (hv:vs≠[])
  (h1:ws=[]→Q (.ref t) s) (h2:ws≠[]→Q (.ref s.heap.objs.size) { s with heap:=s.heap.push { cls:=.type "tuple",data:=.seq (vs++ws).toArray } })
  (hsz:vs.length+ws.length≤sizeLine):wpAny (model prog w) A (binaryOp .Add (.ref t) (.ref b)) Q E s:=by
 obtain ⟨⟨cls,dd,data,sl⟩,ho,hc,n,hd⟩:=id ht
 obtain ⟨⟨cls2,dd2,data2,sl2⟩,ho2,hc2,n2,hd2⟩:=id hb
 simp only at hc hd hc2 hd2
 subst hc hd hc2 hd2
 have e:vs.toArray++ws.toArray=(vs++ws).toArray:=by simp
 by_cases hw:ws=[]
 ·exact concat_meets ⟨_,ho,rfl⟩ ⟨_,ho2,rfl⟩ noFill_tuple_add seq_tuple_add PySem.F.slot_tuple_add PySem.F.entry_tuple_add (PySem.F.args_tuple_add_2 _ _)
   (tuple_addW1 t b vs.toArray ws.toArray n n2 dd dd2 sl sl2 (by simpa using hv) (by simp [hw])) ⟨ho,ho2,h1 hw⟩
 ·refine concat_meets ⟨_,ho,rfl⟩ ⟨_,ho2,rfl⟩ noFill_tuple_add seq_tuple_add PySem.F.slot_tuple_add PySem.F.entry_tuple_add (PySem.F.args_tuple_add_2 _ _)
   (tuple_addW2 t b vs.toArray ws.toArray n n2 dd dd2 sl sl2 (by simpa using hv) (by simpa using hw) (by rw [List.size_toArray,List.size_toArray]; exact hsz)) ⟨ho,ho2,?_⟩
  rw [e]
  exact h2 hw
def sIx (n d:Nat):Option Int→Nat
 | none=>d
 | some v=>if v < 0 then (v+(n:Int)).toNat else min v.toNat n
theorem sIx_none (n d:Nat):sIx n d none=d:=rfl
theorem sIx_nat (n d k:Nat):sIx n d (some (k:Int))=min k n:=by
 show (if (k:Int) < 0 then ((k:Int)+(n:Int)).toNat else min (k:Int).toNat n)=min k n
 rw [if_neg (by omega),Int.toNat_natCast]
theorem J4E (n d:Nat) (hd:d≤n) (o:Option Int):sIx n d o≤n:=by
 cases o with
 | none=>exact hd
 | some v=>
  show (if v < 0 then (v+(n:Int)).toNat else min v.toNat n)≤n
  by_cases hv:v < 0
  ·rw [if_pos hv]; omega
  ·rw [if_neg hv]; exact Nat.min_le_right _ _
theorem Z8R (v:Int) (n d:Nat):(if v < 0 then max (v+(n:Int)) 0 else min v (n:Int))=((sIx n d (some v):Nat):Int):=by
 show (if v < 0 then max (v+(n:Int)) 0 else min v (n:Int))=(((if v < 0 then (v+(n:Int)).toNat else min v.toNat n):Nat):Int)
 by_cases hv:v < 0
 ·simp only [if_pos hv]; omega
 ·simp only [if_neg hv]; omega
theorem Z7P (lo hi:Option Int) (n:Nat):Builtin.Slice.sliceAdjust lo hi 1 (n:Int)=(((sIx n 0 lo:Nat):Int),((sIx n n hi:Nat):Int)):=by
 have h1:¬ ((1:Int) < 0):=by omega
 unfold Builtin.Slice.sliceAdjust
 simp only [h1,if_false]
 refine Prod.ext ?_ ?_
 ·cases lo with
  | none=>rfl
  | some v=>exact Z8R v n 0
 ·cases hi with
  | none=>rfl
  | some v=>exact Z8R v n n
theorem Z7K (i j:Nat):Builtin.Slice.slicePlaces (i:Int) (j:Int) 1=j - i:=by
 unfold Builtin.Slice.slicePlaces
 have h1:(1:Int) > 0:=by omega
 simp only [h1,if_true,Int.ediv_one]
 split <;> omega
theorem Z4O {v:Value} {o:Option Int} {Q:Option Int→Shared→Prop} (p:IsPart v o) (h:Q o s):wpAny (model prog w) A (Builtin.Slice.slicePartIndex v) Q E s:=by
 cases p with
 | none=>exact slicePart_none h
 | int i t=>exact slicePart_int h
theorem Z2J {sl:Addr} {vl vu:Value} {lo hi:Option Int} {n:Nat} {Q:Int×Int×Nat→Shared→Prop} (hs:s.heap.IsSliceOf sl vl vu .none) (pl:IsPart vl lo) (pu:IsPart vu hi)
  (h:Q (((sIx n 0 lo:Nat):Int),1,sIx n n hi - sIx n 0 lo) s):wpAny (model prog w) A (Builtin.Slice.sliceApplied (.ref sl) (pure (n:Int))) Q E s:=by
 obtain ⟨os,hos,hcs,hds⟩:=id hs
 unfold Builtin.Slice.sliceApplied Builtin.Slice.sliceFields
 refine wpAny_bind (wpAny_bind (wpAny_field hos hds (x:=vl) rfl (wpAny_bind (wpAny_field hos hds (x:=vu) rfl (wpAny_bind (wpAny_field hos hds (x:=.none) rfl (wpAny_pure ?_)))))))
 refine wpAny_bind (slicePart_none ?_)
 show wpAny _ _ (if ((1:Int) == 0)=true then _ else _) _ _ s
 rw [if_neg (by decide)]
 refine wpAny_bind (Z4O pl (wpAny_bind (Z4O pu (wpAny_bind (wpAny_pure ?_)))))
 show wpAny _ _ (match Builtin.Slice.sliceAdjust lo hi 1 (n:Int) with | (lo,hi)=>pure (lo,(1:Int),Builtin.Slice.slicePlaces lo hi 1)) _ _ s
 rw [Z7P lo hi n]
 show wpAny _ _ (pure (((sIx n 0 lo:Nat):Int),(1:Int),Builtin.Slice.slicePlaces ((sIx n 0 lo:Nat):Int) ((sIx n n hi:Nat):Int) 1)) _ _ s
 rw [Z7K]
 exact wpAny_pure h
theorem J1j (xs:Array Value) (i k:Nat):((List.range k).filterMap fun (m:Nat)=>xs[((i:Int)+(m:Int) * 1).toNat]?).toArray=((xs.toList.drop i).take k).toArray:=by
 have e:(fun (m:Nat)=>xs[((i:Int)+(m:Int) * 1).toNat]?)=fun m=>xs[i+m]?:=by
  funext m
  have:((i:Int)+(m:Int) * 1).toNat=i+m:=by omega
  rw [this]
 rw [e]
 have:=pick_run xs i k
 rw [List.filterMap_map] at this
 have e2:((fun x=>xs[x]?) ∘ fun x=>i+x)=fun m=>xs[i+m]?:=rfl
 rw [e2] at this
 rw [this]
theorem getItem_tuple_cut {t sl:Addr} {items:Array Value} {vl vu:Value} {lo hi:Option Int} {Q:Value→Shared→Prop} (ht:IsTup s.heap t items) (hs:s.heap.IsSliceOf sl vl vu .none) (pl:IsPart vl lo) (pu:IsPart vu hi)
  (hw:¬ (sIx items.size 0 lo=0∧sIx items.size items.size hi=items.size))
  (h:Q (.ref s.heap.objs.size) { s with heap:=s.heap.push { cls:=.type "tuple",data:=.seq ((items.toList.drop (sIx items.size 0 lo)).take (sIx items.size items.size hi - sIx items.size 0 lo)).toArray } })
  (hsz:items.size≤sizeLine):wpAny (model prog w) A (getItem (.ref t) (.ref sl)) Q E s:=by
 have htake:sizeOk (.seq ((items.toList.drop (sIx items.size 0 lo)).take (sIx items.size items.size hi - sIx items.size 0 lo)).toArray):=by
  show ((items.toList.drop (sIx items.size 0 lo)).take (sIx items.size items.size hi - sIx items.size 0 lo)).toArray.size≤sizeLine
  rw [List.size_toArray,List.length_take,List.length_drop,Array.length_toList]
  omega
 have hj:sIx items.size items.size hi≤items.size:=J4E _ _ (Nat.le_refl _) hi
 obtain ⟨os,hos,hcs,hds⟩:=id hs
 have hTs:s.TypeIs (.ref sl) "slice":=⟨os,hos,hcs⟩
 unfold getItem
 try with_reducible refine wpAny_holding ?_
 first | refine wpAny_bind (wpAny_pure ?_) | skip
 refine wpAny_bind (wpAny_sequenceKey ht.typeIs (by decide) ?_)
 refine wpAny_bind (wpAny_callSpecial?_slot (name:=Str.ofString "__getitem__") ht.typeIs PyProof.Rows.slot_tuple_getitem
  (wpAny_call_entry PyProof.Rows.slot_tuple_getitem ht.typeIs entry_tuple_getitem ?_ (args_tuple_getitem _ _)))
 show wpAny _ _ (Builtin.Tuple.tupleItemsOf (.ref t) >>= _) _ _ s
 refine wpAny_bind (tupleItemsOf_ ht ?_)
 refine wpAny_bind (wpAny_typeOf hTs ?_)
 rw [if_pos (by decide)]
 refine wpAny_bind (Z2J hs pl pu ?_)
 have hno:¬ ((((sIx items.size 0 lo:Nat):Int) == 0&&(1:Int) == 1&&(sIx items.size items.size hi - sIx items.size 0 lo) == items.size)=true):=by
  intro q
  rw [Bool.and_eq_true,Bool.and_eq_true] at q
  have q1:((sIx items.size 0 lo:Nat):Int)=0:=eq_of_beq q.1.1
  have q2:sIx items.size items.size hi - sIx items.size 0 lo=items.size:=eq_of_beq q.2
  exact hw ⟨by omega,by omega⟩
 show wpAny _ _ (if (((sIx items.size 0 lo:Nat):Int) == 0&&(1:Int) == 1&&(sIx items.size items.size hi - sIx items.size 0 lo) == items.size)=true then _ else _) _ _ s
 rw [if_neg hno,J1j]
 first
  | exact wpAny_bind (m:=Builtin.Tuple.tupleExact _) (wpAny_newObj_type (wpAny_pure ⟨_,rfl,wpAny_pure h⟩) htake)
  | exact wpAny_bind (m:=Builtin.Tuple.tupleExact _) (wpAny_newObj_type (wpAny_bind (wpAny_pure (wpAny_pure ⟨_,rfl,wpAny_pure h⟩))) htake)
  | exact wpAny_bind (wpAny_bind (m:=Builtin.Tuple.tupleExact _) (wpAny_newObj_type (wpAny_pure (wpAny_pure ⟨_,rfl,wpAny_pure h⟩)) htake))
  | exact wpAny_bind (wpAny_bind (m:=Builtin.Tuple.tupleExact _) (wpAny_newObj_type (wpAny_pure ⟨_,rfl,wpAny_pure h⟩) htake))
end
end HT
namespace L2
open PySem PySem.Spec PyProof.Rows
abbrev TO:=St→Hp→(Option Int→Hp→Prop)→Prop
def PO (X:Cx) (e:Option Expr) (t:TO):Prop:=
 ∀ (pins:List (Addr×Obj)) (s:Shared) (σ:St) (H:Hp) (Q:Option Int→Hp→Prop),Inv X pins σ H s→t σ H Q →
  wpAny (model X.prog X.w) X.A (evalPart e X.env) (fun u s'=>∃ o H',Inv X pins σ H' s'∧IsPart u o∧Q o H') X.xe s
def J0c:TO:=fun _ H Q=>Q none H
def J3W (t:TE):TO:=fun σ H Q=>t σ H fun x H1=>∃ i,x=.int i∧Q (some i) H1
section
variable {X:Cx} {e:Expr} {te:TE} {lo hi:Option Expr} {tl th:TO} {pos p2:Pos}
theorem Z1D:PO X none J0c:=by
 intro pins s σ H Q I h
 rw [evalPart_none]
 exact wpAny_pure ⟨none,H,I,.none,h⟩
theorem Z1I (h:PE X e te):PO X (some e) (J3W te):=by
 intro pins s σ H Q I hw
 rw [evalPart_some]
 refine thn (h pins s σ H _ I hw) fun u s1 ⟨x,H1,I1,r1,q1⟩=>?_
 obtain ⟨i,rfl,q⟩:=q1
 obtain ⟨t,rfl⟩:=r1
 exact ⟨some i,H1,I1,.int i t,q⟩
def SlR (X:Cx) (r:V→Option Int→Option Int→Hp→VK→Prop):Prop:=
 ∀ (pins:List (Addr×Obj)) (s:Shared) (σ:St) (H:Hp) (x:V) (v vl vu:Value) (lo hi:Option Int) (sl:Addr) (Q:VK),Inv X pins σ H s→RelV x v→s.heap.IsSliceOf sl vl vu .none→IsPart vl lo→IsPart vu hi→r x lo hi H Q →
  ∃ T id,typeLookup (.type T) "__getitem__"=pure (some (.builtin id))∧s.TypeIs v T∧wpAny (model X.prog X.w) X.A (getItem v (.ref sl)) (EP X pins σ Q) X.xe s
def tSl (r:V→Option Int→Option Int→Hp→VK→Prop) (te:TE) (tl th:TO):TE:=fun σ H Q=>te σ H fun x H1=>tl σ H1 fun l H2=>th σ H2 fun u H3=>r x l u H3 Q
theorem Z1i {r:V→Option Int→Option Int→Hp→VK→Prop} (hr:SlR X r) (he:PE X e te) (hl:PO X lo tl) (hu:PO X hi th):PE X (.Subscript e (.Slice lo hi none p2) pos) (tSl r te tl th):=by
 intro pins s σ H Q I h
 refine Subscript_ (thn (he pins s σ H _ I h) fun v s1 ⟨x,H1,I1,r1,q1⟩=>?_)
 refine wpAny_Slice (thn (hl pins s1 σ H1 _ I1 q1) fun vl s2 ⟨l,H2,I2,pl,q2⟩=>thn (hu pins s2 σ H2 _ I2 q2) fun vu s3 ⟨u,H3,I3,pu,q3⟩=>?_)
 rw [evalPart_none]
 refine wpAny_pure ?_
 have I4:Inv X pins σ H3 { s3 with heap:=s3.heap.push { cls:=.type "slice",data:=.fields #[vl,vu,.none] } }:=I3.kept (t':=s3.toks) fun b ob q=>Heap.get?_push_of_some _ q
 obtain ⟨T,id,hT,ht,hg⟩:=hr pins { s3 with heap:=s3.heap.push { cls:=.type "slice",data:=.fields #[vl,vu,.none] } } σ H3 x v vl vu l u s3.heap.objs.size Q I4 r1 (Heap.IsSliceOf.new ..) pl pu q3
 show wpAny (model X.prog X.w) X.A (subscriptTail e (.Slice lo hi none p2) v (.ref s3.heap.objs.size)) (EP X pins σ Q) X.xe { s3 with heap:=s3.heap.push { cls:=.type "slice",data:=.fields #[vl,vu,.none] } }
 exact tail_any (ops:=[.ref s3.heap.objs.size,v]) ht hT hg (by with_unfolding_all rfl)
def cutV (xs:List V) (lo hi:Option Int):List V:=(xs.drop (HT.sIx xs.length 0 lo)).take (HT.sIx xs.length xs.length hi - HT.sIx xs.length 0 lo)
theorem Z4w (xs:List V) (lo hi:Option Int):(cutV xs lo hi).length≤xs.length:=by
 unfold cutV
 rw [List.length_take,List.length_drop]
 omega
def rSlT (K:W.Frag):V→Option Int→Option Int→Hp→VK→Prop:=fun x lo hi H Q=>∃ a xs,x=.ref a∧SqT K H a xs ∧
 ¬ (HT.sIx xs.length 0 lo=0∧HT.sIx xs.length xs.length hi=xs.length)∧∀ p,H p=none→Q (.ref p) (upd H p (.tup (cutV xs lo hi)))
theorem J3y:SlR X (rSlT X.K):=by
 intro pins s σ H x v vl vu lo hi sl Q I rx hs pl pu h
 obtain ⟨a,xs,rfl,hx,hw,q⟩:=h
 cases rx
 obtain ⟨its,r,ht,hz⟩:=I.tuple hx
 have hlen:its.toArray.size=xs.length:=by rw [List.size_toArray]; exact r.length.symm
 refine ⟨"tuple",_,PyProof.Rows.slot_tuple_getitem.lookup,ht.typeIs,?_⟩
 refine HT.getItem_tuple_cut ht hs pl pu (by rw [hlen]; exact hw) ?_ (by rw [hlen]; exact hz)
 rw [hlen]
 refine ⟨.ref s.heap.objs.size,_,I.laid (t':=s.toks) (o:=.tup (cutV xs lo hi)) (fun b ob q=>Heap.get?_push_of_some _ q) (Nat.le_refl _) ?_,rfl,q _ (I.hok.fresh (Nat.le_refl _))⟩
 exact ⟨⟨Nat.le_trans (Z4w xs lo hi) hz,Z4M⟩,_,(r.drop (HT.sIx xs.length 0 lo)).take (HT.sIx xs.length xs.length hi - HT.sIx xs.length 0 lo),IsTup.new _ _⟩
def J3p (K:W.Frag):R2:=fun x y H Q=>∃ a b xs ys,x=.ref a∧y=.ref b∧SqT K H a xs∧SqT K H b ys∧xs≠[]∧xs.length+ys.length≤sizeLine ∧
 (ys=[]→Q (.ref a) H)∧(ys≠[]→∀ p,H p=none→Q (.ref p) (upd H p (.tup (xs++ys))))
theorem Vals.nil_iff {xs:List V} {us:List Value} (r:Vals xs us):us=[]↔xs=[]:=by
 cases r with
 | nil=>simp
 | cons _ _=>simp
theorem J2V:OpR X (binaryOp .Add) (J3p X.K):=by
 intro pins s σ H x y v u Q I rx ry h
 obtain ⟨a,b,xs,ys,rfl,rfl,ha,hb,hx,hz,q1,q2⟩:=h
 cases rx
 cases ry
 obtain ⟨its,r1,p1,_⟩:=I.tuple ha
 obtain ⟨its2,r2,p2,_⟩:=I.tuple hb
 refine HT.cat_tup p1 p2 (fun z=>hx (r1.nil_iff.mp z)) (fun z=>⟨.ref a,H,I,rfl,q1 (r2.nil_iff.mp z)⟩) (fun z=>?_) (by rw [← r1.length,← r2.length]; exact hz)
 refine ⟨.ref s.heap.objs.size,_,I.laid (t':=s.toks) (o:=.tup (xs++ys)) (fun b ob q=>Heap.get?_push_of_some _ q) (Nat.le_refl _) ?_,rfl,q2 (fun w=>z (r2.nil_iff.mpr w)) _ (I.hok.fresh (Nat.le_refl _))⟩
 exact ⟨⟨by rw [List.length_append]; exact hz,Z4M⟩,_,r1.append r2,IsTup.new _ _⟩
end
end L2
namespace L2
open PySem PySem.Spec PyProof.Rows
def ixN (n:Nat) (i:Int):Option Nat:=if 0≤i then (if i < n then some i.toNat else none) else if -(n:Int)≤i then some (i+n).toNat else none
def atI {α:Type} (xs:List α) (i:Int):Option α:=(ixN xs.length i).bind fun j=>xs[j]?
theorem Z9y {n:Nat} {i:Int} {j:Nat} (h:ixN n i=some j):seqIndex? i n=some j∧j < n∧-(n:Int)≤i∧i < n:=by
 unfold ixN at h
 by_cases h0:0≤i
 ·rw [if_pos h0] at h
  by_cases h1:i < n
  ·rw [if_pos h1] at h
   have e:i.toNat=j:=Option.some.inj h
   exact ⟨by rw [seqIndex_of h0 h1,e],by omega,by omega,h1⟩
  ·rw [if_neg h1] at h; cases h
 ·rw [if_neg h0] at h
  by_cases h1:-(n:Int)≤i
  ·rw [if_pos h1] at h
   have e:(i+n).toNat=j:=Option.some.inj h
   exact ⟨by rw [seqIndex_neg (by omega) h1,e],by omega,h1,by omega⟩
  ·rw [if_neg h1] at h; cases h
theorem Z6y {α:Type} {xs:List α} {i:Int} {v:α} (h:atI xs i=some v):∃ j,seqIndex? i xs.length=some j∧xs[j]?=some v∧j < xs.length∧-(xs.length:Int)≤i∧i < xs.length:=by
 unfold atI at h
 cases e:ixN xs.length i with
 | none=>rw [e] at h; cases h
 | some j=>
  rw [e] at h
  obtain ⟨h1,h2,h3,h4⟩:=Z9y e
  exact ⟨j,h1,h,h2,h3,h4⟩
theorem Z0P {α:Type} {xs:List α} {j:Nat} {v:α} (h:xs[j]?=some v):atI xs (j:Int)=some v:=by
 have hj:j < xs.length:=(List.getElem?_eq_some_iff.mp h).1
 have e:ixN xs.length (j:Int)=some j:=by
  unfold ixN
  rw [if_pos (by omega),if_pos (by omega)]; simp
 unfold atI; rw [e]; exact h
theorem Z2d {α:Type} (xs:List α) (v:α):atI (xs++[v]) (-1)=some v:=by
 have hl:(xs++[v]).length=xs.length+1:=by simp
 have e:ixN (xs++[v]).length (-1)=some xs.length:=by
  unfold ixN
  rw [hl,if_neg (by decide),if_pos (by omega)]
  congr 1
  omega
 unfold atI
 rw [e]
 show (xs++[v])[xs.length]?=some v
 simp
def J3h (b:Expr):Prop:=∀ o i,subscripted b false o i=operate [o,i] (getItem o i)
def IxR (X:Cx) (r:R2):Prop:=
 ∀ (value slice:Expr) (pins:List (Addr×Obj)) (s:Shared) (σ:St) (H:Hp) (x y:V) (v u:Value) (Q:VK),Inv X pins σ H s→RelV x v→RelV y u→r x y H Q →
  subscripted slice false v u=operate [v,u] (getItem v u)→wpAny (model X.prog X.w) X.A (subscriptTail value slice v u) (EP X pins σ Q) X.xe s
def MtR (X:Cx) (id:String) (r:V→List V→Hp→VK→Prop):Prop:=
 ∀ (pins:List (Addr×Obj)) (s:Shared) (σ:St) (H:Hp) (x:V) (xs:List V) (v:Value) (us:List Value) (Q:VK),Inv X pins σ H s→RelV x v→Vals xs us→r x xs H Q →
  wpAny (model X.prog X.w) X.A (call (.builtin id) (v::us)) (EP X pins σ Q) X.xe s
section
variable {X:Cx} {a b:Expr} {ta tb:TE} {pos:Pos}
theorem Z0u {r:R2} (hr:IxR X r) (ha:PE X a ta) (hb:PE X b tb) (hs:J3h b):PE X (.Subscript a b pos) (tOp r ta tb):=by
 intro pins s σ H Q I h
 exact Subscript_ (binT ha hb I h fun v u s2 x y H2 I2 rx ry q=>hr a b pins s2 σ H2 x y v u Q I2 rx ry q (hs _ _))
def rIxL (K:W.Frag):R2:=fun x y H Q=>∃ p xs i v,x=.ref p∧y=.int i∧SqL K H p xs∧atI xs i=some v∧Q v H
def rIxT (K:W.Frag):R2:=fun x y H Q=>∃ p xs i v,x=.ref p∧y=.int i∧SqT K H p xs∧atI xs i=some v∧Q v H
def rIxS:R2:=fun x y H Q=>∃ z i c,x=.str z∧y=.int i∧z.length≤sizeLine∧atI z.cps.toList i=some c∧Q (.str ⟨#[c]⟩) H
theorem J2z:IxR X (rIxL X.K):=by
 intro value slice pins s σ H x y v u Q I rx ry h hs
 obtain ⟨p,xs,i,z,rfl,rfl,hq,he,q⟩:=h
 cases rx
 obtain ⟨t,rfl⟩:=ry
 obtain ⟨its,r,pl,hz⟩:=I.list hq
 obtain ⟨j,h1,h2,h3,h4,h5⟩:=Z6y he
 obtain ⟨w,ew,rw'⟩:=r.get h2
 have hl:=r.length
 have hn:=Z5Z
 have fin:EP X pins σ Q w s:=⟨z,H,I,rw',q⟩
 by_cases h0:0≤i
 ·have hj:i.toNat=j:=by
   rw [seqIndex_of h0 h5] at h1
   exact Option.some.inj h1
  exact item_listR pl.isList h0 (by omega) (by rw [hj]; simpa using ew) fin hs
 ·have hj:(i+(its.toArray.size:Int)).toNat=j:=by
   rw [seqIndex_neg (by omega) h4] at h1
   rw [List.size_toArray,← hl]
   exact Option.some.inj h1
  exact subscriptTail_builtinR (x:=w) pl.isList.typeIs slot_list_getitem.lookup
   (wpAny_getItem_list_neg (Q:=fun r s'=>r=w∧EP X pins σ Q r s') pl.isList (by omega) (by rw [List.size_toArray] <;> omega) (by omega) (by rw [hj]; simpa using ew) ⟨rfl,fin⟩) hs
theorem J4k:IxR X (rIxT X.K):=by
 intro value slice pins s σ H x y v u Q I rx ry h hs
 obtain ⟨p,xs,i,z,rfl,rfl,hq,he,q⟩:=h
 cases rx
 obtain ⟨t,rfl⟩:=ry
 obtain ⟨its,r,pl,hz⟩:=I.tuple hq
 obtain ⟨j,h1,h2,h3,h4,h5⟩:=Z6y he
 obtain ⟨w,ew,rw'⟩:=r.get h2
 have hl:=r.length
 have hn:=Z5Z
 have fin:EP X pins σ Q w s:=⟨z,H,I,rw',q⟩
 exact subscriptTail_builtinR (x:=w) pl.typeIs slot_tuple_getitem.lookup
  (getItem_tuple (j:=j) (Q:=fun r s'=>r=w∧EP X pins σ Q r s') pl (by omega) (by omega) (by rw [List.size_toArray,← hl]; exact h1) (by simpa using ew) ⟨rfl,fin⟩) hs
theorem Z3L:IxR X rIxS:=by
 intro value slice pins s σ H x y v u Q I rx ry h hs
 obtain ⟨z,i,c,rfl,rfl,hz,he,q⟩:=h
 obtain ⟨t,rfl⟩:=rx
 obtain ⟨t',rfl⟩:=ry
 obtain ⟨j,h1,h2,h3,h4,h5⟩:=Z6y he
 have hl:z.cps.toList.length=z.length:=by simp [Str.length]
 rw [hl] at h1 h4 h5
 have hn:=Z5Z
 exact tail_any (typeIs_str s z t) slot_str_getitem.lookup (getItem_str (c:=c) (by
  have e1:decide (i < -(2 ^ 63:Int))=false:=decide_eq_false (by omega)
  have e2:decide (i ≥ 2 ^ 63)=false:=decide_eq_false (by omega)
  rw [e1,e2,Bool.or_false]) (by rw [h1]; simpa using h2) ⟨.str ⟨#[c]⟩,H,I.tok _,⟨_,rfl⟩,q⟩) hs
theorem Z8a (its:List Value) (n j:Nat) (u:Value):Obj.mapSeq (·.setIfInBounds j u) { cls:=.type "list",data:=.seq its.toArray n }={ cls:=.type "list",data:=.seq (its.set j u).toArray n }:=by
 simp [Obj.mapSeq]
theorem Inv.lst {pins:List (Addr×Obj)} {σ:St} {H:Hp} {s:Shared} {p:Addr} {xs:List V} (I:Inv X pins σ H s) (h:H p=some (.lst xs)) :
  ∃ (its:List Value) (n:Nat),Vals xs its∧s.heap.get? p=some { cls:=.type "list",data:=.seq its.toArray n }∧xs.length≤sizeLine:=by
 obtain ⟨z,its,n,r,e⟩:=I.hok p _ h
 exact ⟨its,n,r,e,z⟩
theorem Inv.lstUpd {pins:List (Addr×Obj)} {σ:St} {H:Hp} {s:Shared} {p:Addr} {xs ys:List V} {its its':List Value} {n n':Nat} {f:Obj→Obj} (I:Inv X pins σ H s) (h:H p=some (.lst xs))
  (ho:s.heap.get? p=some { cls:=.type "list",data:=.seq its.toArray n }) (hf:f { cls:=.type "list",data:=.seq its.toArray n }={ cls:=.type "list",data:=.seq its'.toArray n' }) (r:Vals ys its') (hz:ys.length≤sizeLine) (t:Nat) :
  Inv X pins σ (upd H p (.lst ys)) { s with heap:=s.heap.update p f,toks:=t }:=by
 have e:(s.heap.update p f).get? p=some { cls:=.type "list",data:=.seq its'.toArray n' }:=by
  rw [Heap.get?_update_self f ho (by rw [hf] <;> rfl),hf]
 refine I.write (x:=p) (e:=p) (by rw [h]; trivial) (.inl rfl) (fun b u hb q=>(Heap.get?_update_other _ _ (Ne.symm hb)).trans q) ⟨_,e⟩ ?_
 exact ⟨hz,its',n',r,e⟩
def J4m:V→V→V→Hp→(Hp→Prop)→Prop:=fun o i v H Q=>∃ p xs k j,o=.ref p∧i=.int k∧H p=some (.lst xs)∧ixN xs.length k=some j∧Q (upd H p (.lst (xs.set j v)))
theorem J1i:PSet X J4m:=by
 intro pins s σ H o i v ov iv u Q I ro ri rv h
 obtain ⟨p,xs,k,j,rfl,rfl,hp,hj,q⟩:=h
 cases ro
 obtain ⟨t,rfl⟩:=ri
 obtain ⟨its,n,r,ho,hz⟩:=I.lst hp
 obtain ⟨h1,h2,h3,h4⟩:=Z9y hj
 have hl:=r.length
 have hn:=Z5Z
 have I':Inv X pins σ (upd H p (.lst (xs.set j v))) { s with heap:=s.heap.update p (Obj.mapSeq (·.setIfInBounds j u)) }:=
  I.lstUpd hp ho (Z8a its n j u) (r.set rv j) (by rw [List.length_set]; exact hz) s.toks
 by_cases h0:0≤k
 ·have hk:k.toNat=j:=by
   rw [seqIndex_of h0 h4] at h1
   exact Option.some.inj h1
  exact W.ki_setAt ho h0 (by omega) (by rw [List.size_toArray,← hl]; exact h4) (by rw [hk]; exact ⟨_,I',q⟩)
 ·have hk:(k+(its.toArray.size:Int)).toNat=j:=by
   rw [seqIndex_neg (by omega) h3] at h1
   rw [List.size_toArray,← hl]
   exact Option.some.inj h1
  exact W.ki_setBack ho (by omega) (by rw [List.size_toArray,← hl]; exact h3) (by omega) (by rw [hk]; exact ⟨_,I',q⟩)
theorem Z5G (lo hi:Option Int) (n:Nat):(sliceBounds lo hi none n).1=((HT.sIx n 0 lo:Nat):Int)∧(sliceBounds lo hi none n).2.1=((HT.sIx n n hi:Nat):Int)∧(sliceBounds lo hi none n).2.2=1:=by
 refine ⟨?_,?_,rfl⟩
 ·cases lo with
  | none=>simp [sliceBounds,HT.sIx]
  | some i=>
   simp only [sliceBounds,HT.sIx,Option.getD_none,show (1:Int) > 0 by decide,if_true]
   by_cases h:i < 0
   ·simp only [h,if_true] <;> omega
   ·simp only [h,if_false] <;> omega
 ·cases hi with
  | none=>simp [sliceBounds,HT.sIx]
  | some i=>
   simp only [sliceBounds,HT.sIx,Option.getD_none,show (1:Int) > 0 by decide,if_true]
   by_cases h:i < 0
   ·simp only [h,if_true] <;> omega
   ·simp only [h,if_false] <;> omega
theorem Z5c (its:List Value) (lo hi:Option Int):slicePick its.toArray lo hi none=((its.drop (HT.sIx its.length 0 lo)).take (HT.sIx its.length its.length hi - HT.sIx its.length 0 lo)).toArray:=by
 obtain ⟨h1,h2,h3⟩:=Z5G lo hi its.toArray.size
 unfold slicePick
 rw [h1,h2,h3]
 simp only [sliceRange_one,pick_run,List.size_toArray] <;> rfl
def rSlL (K:W.Frag):V→Option Int→Option Int→Hp→VK→Prop:=fun x lo hi H Q=>∃ a xs,x=.ref a∧SqL K H a xs∧∀ p,H p=none→Q (.ref p) (upd H p (.lst (cutV xs lo hi)))
theorem Z5t:SlR X (rSlL X.K):=by
 intro pins s σ H x v vl vu lo hi sl Q I rx hs pl pu h
 obtain ⟨a,xs,rfl,hx,q⟩:=h
 cases rx
 obtain ⟨its,r,ht,hz⟩:=I.list hx
 have hlen:=r.length
 refine ⟨"list",_,slot_list_getitem.lookup,ht.isList.typeIs,?_⟩
 refine wpAny_getItem_list_slice ht.isList hs pl pu .none (by simp) ?_ (by rw [List.size_toArray] <;> omega)
 rw [Z5c,← hlen]
 refine ⟨.ref s.heap.objs.size,_,I.laid (t':=s.toks) (o:=.lst (cutV xs lo hi)) (fun b ob q=>Heap.get?_push_of_some _ q) (Nat.le_refl _) ?_,rfl,q _ (I.hok.fresh (Nat.le_refl _))⟩
 exact ⟨Nat.le_trans (Z4w xs lo hi) hz,_,0,(r.drop (HT.sIx xs.length 0 lo)).take (HT.sIx xs.length xs.length hi - HT.sIx xs.length 0 lo),Heap.get?_push_size _ rfl⟩
def J0j:V→Bool
 | .non=>true
 | .bl _=>true
 | .int _=>true
 | .str _=>true
 | _=>false
def eqV:V→V→Bool
 | .non,.non=>true
 | .bl a,.bl b=>a == b
 | .bl a,.int b=>(if a then 1 else 0) == b
 | .int a,.bl b=>a == (if b then 1 else 0)
 | .int a,.int b=>a == b
 | .str a,.str b=>a == b
 | _,_=>false
def inV (x:V) (xs:List V):Bool:=xs.any fun y=>eqV y x
def rIn (K:W.Frag) (neg:Bool):R2:=fun x y H Q=>∃ p xs,y=.ref p∧(SqL K H p xs∨SqT K H p xs)∧J0j x=true∧xs.all J0j=true∧Q (.bl (if neg then !inV x xs else inV x xs)) H
theorem Z0l:Z4l X (.builtin "len") (fun xs H Q=>∃ p ys,xs=[.ref p]∧(SqL X.K H p ys∨SqT X.K H p ys)∧Q (.int ys.length) H):=by
 intro pins s σ H xs us Q I r h
 obtain ⟨p,ys,rfl,hq,q⟩:=h
 obtain ⟨u,rfl,rx⟩:=J0I r
 cases rx
 have hn:=Z5Z
 rcases hq with hq | hq
 ·obtain ⟨its,r',pl,hz⟩:=I.list hq
  have hlen:=r'.length
  exact Calls.call_len_list pl.isList (by simp only [List.size_toArray] <;> omega) ⟨.int ys.length,H,I.tok _,⟨s.toks+1,by rw [List.size_toArray,hlen]⟩,q⟩
 ·obtain ⟨its,r',pl,hz⟩:=I.tuple hq
  have hlen:=r'.length
  exact len_tuple pl (by simp only [List.size_toArray] <;> omega) ⟨.int ys.length,H,I.tok _,⟨s.toks+1,by rw [List.size_toArray,hlen]⟩,q⟩
theorem Z1X:Z4l X (.type "list") (fun xs H Q=>∃ p ys,xs=[.ref p]∧(SqL X.K H p ys∨SqT X.K H p ys)∧∀ l,H l=none→Q (.ref l) (upd H l (.lst ys))):=by
 intro pins s σ H xs us Q I r h
 obtain ⟨p,ys,rfl,hq,q⟩:=h
 obtain ⟨u,rfl,rx⟩:=J0I r
 cases rx
 have fin:∀ (its:List Value),Vals ys its→ys.length≤sizeLine→∀ (h':Heap) (c':Nat),(∀ b o',s.heap.get? b=some o'→h'.get? b=some o') →
   h'.get? s.heap.objs.size=some { cls:=.type "list",dict:=none,data:=.seq its.toArray c',slots:=#[] }→EP X pins σ Q (.ref s.heap.objs.size) { s with heap:=h' }:=fun its r' hz h' c' kp e=>
  ⟨.ref s.heap.objs.size,_,I.laid (t':=s.toks) kp (Nat.le_refl _) (show ObjOk X.prog X.w _ h' _ (.lst ys) from ⟨hz,its,c',r',e⟩),rfl,q _ (I.hok.fresh (Nat.le_refl _))⟩
 rcases hq with hq | hq
 ·obtain ⟨its,r',pl,hz⟩:=I.list hq
  have hlen:=r'.length
  obtain ⟨o,ho,hc,n,hd⟩:=pl.isList
  exact call_list_seq p (.inl rfl) ho hc hd (fun h' c' kp e=>fin its r' hz h' c' kp e) (by simp only [List.size_toArray] <;> omega)
 ·obtain ⟨its,r',pl,hz⟩:=I.tuple hq
  have hlen:=r'.length
  obtain ⟨o,ho,hc,n,hd⟩:=pl
  exact call_list_seq p (.inr rfl) ho hc hd (fun h' c' kp e=>fin its r' hz h' c' kp e) (by simp only [List.size_toArray] <;> omega)
theorem Z1B:Z4l X (.type "tuple") (fun xs H Q=>∃ p ys,xs=[.ref p]∧((SqL X.K H p ys∧∀ l,H l=none→Q (.ref l) (upd H l (.tup ys)))∨(SqT X.K H p ys∧Q (.ref p) H))):=by
 intro pins s σ H xs us Q I r h
 obtain ⟨p,ys,rfl,h⟩:=h
 obtain ⟨u,rfl,rx⟩:=J0I r
 cases rx
 rcases h with ⟨hq,q⟩ | ⟨hq,q⟩
 ·obtain ⟨its,r',pl,hz⟩:=I.list hq
  have hlen:=r'.length
  refine call_tuple_list pl.isList (fun h' kp=>?_) (by simp only [List.size_toArray] <;> omega)
  have I1:Inv X pins σ H { s with heap:=h' }:=I.kept (t':=s.toks) kp
  have I2:Inv X pins σ (upd H h'.objs.size (.tup ys)) { s with heap:=h'.push { cls:=.type "tuple",data:=.seq its.toArray } }:=
   I1.laid (t':=s.toks) (fun b o e=>Heap.get?_push_of_some _ e) (Nat.le_refl _) (show ObjOk X.prog X.w _ _ _ (.tup ys) from ⟨⟨hz,Z4M⟩,its,r',IsTup.new _ _⟩)
  exact ⟨.ref h'.objs.size,_,I2,rfl,q _ (I1.hok.fresh (Nat.le_refl _))⟩
 ·obtain ⟨its,r',pl,hz⟩:=I.tuple hq
  exact call_tuple_same pl ⟨.ref p,H,I,rfl,q⟩
def tyV (K:W.Frag) (T:String) (x:V) (H:Hp):Prop:=match x with
 | .str _=>T="str"
 | .int _=>T="int"
 | .ref p=>(T="list"∧∃ xs,SqL K H p xs)∨(T="tuple"∧∃ o,K.lookup p=some o∧o.cls=.type "tuple"∧o.dict=none) ∨
   (T="dict"∧((∃ kvs,H p=some (.dK kvs))∨∃ kvs,H p=some (.dT kvs)))∨(T="set"∧∃ S n,H p=some (.set S n))
 | _=>False
theorem J1J {pins:List (Addr×Obj)} {σ:St} {H:Hp} {s:Shared} {T:String} {x:V} {v:Value} (I:Inv X pins σ H s) (r:RelV x v) (ty:tyV X.K T x H) :
  s.TypeIs v T∧∀ a,v=.ref a→∃ ob,s.heap.get? a=some ob∧ob.dict=none:=by
 cases x with
 | str z=>
  obtain ⟨t,rfl⟩:=r
  cases (show T="str" from ty)
  exact ⟨typeIs_str s z t,fun _ e=>nomatch e⟩
 | int i=>
  obtain ⟨t,rfl⟩:=r
  cases (show T="int" from ty)
  exact ⟨typeIs_int s i t,fun _ e=>nomatch e⟩
 | ref p=>
  cases r
  rcases ty with ⟨rfl,xs,hq⟩ | ⟨rfl,o,hk,hc,hd⟩ | ⟨rfl,hk⟩ | ⟨rfl,S,n,hk⟩
  ·obtain ⟨its,_,pl,_⟩:=I.list hq
   refine ⟨pl.isList.typeIs,fun a e=>?_⟩
   cases e
   obtain ⟨o,n,e,c,hd,_⟩:=pl
   exact ⟨o,e,hd⟩
  ·refine ⟨⟨o,I.kIn p o hk,hc⟩,fun a e=>?_⟩
   cases e
   exact ⟨o,I.kIn _ o hk,hd⟩
  ·have z:∃ o,s.heap.get? p=some o∧o.ExactDict:=by
    rcases hk with ⟨kvs,hk⟩ | ⟨kvs,hk⟩
    ·obtain ⟨_,_,_,_,o,_,_,e,ex,_⟩:=I.hok p _ hk
     exact ⟨o,e,ex⟩
    ·obtain ⟨_,_,_,_,o,_,_,e,ex,_⟩:=I.hok p _ hk
     exact ⟨o,e,ex⟩
   obtain ⟨o,e,ex⟩:=z
   refine ⟨⟨o,e,ex.1⟩,fun a e2=>?_⟩
   cases e2
   exact ⟨o,e,ex.2.1⟩
  ·obtain ⟨o,_,_,_,e,ex,_⟩:=I.hok p _ hk
   refine ⟨⟨o,e,ex.1⟩,fun a e2=>?_⟩
   cases e2
   exact ⟨o,e,ex.2.1⟩
 | _=>exact False.elim ty
def tBM0 (K:W.Frag) (T:String) (r:V→List V→Hp→VK→Prop) (to:TE):TE:=fun σ H Q=>to σ H fun x H1=>tyV K T x H1∧r x [] H1 Q
def tBM (K:W.Frag) (T:String) (r:V→List V→Hp→VK→Prop) (to:TE) (t:TA):TE:=fun σ H Q=>to σ H fun x H1=>tyV K T x H1∧t σ H1 fun xs H2=>r x xs H2 Q
variable {o e:Expr} {es:List Expr} {to:TE} {t:TA} {name:Str} {apos cpos:Pos} {T id:String} {r:V→List V→Hp→VK→Prop}
theorem Z9H (pa:PlainAttrs T) (slot:Slot T name id) (hty:typeOf (.builtin id)=pure (.type "method_descriptor")) (hm:MtR X id r) (ho:PE X o to)
  (hbase:attributeBase o name X.env (eval o X.env)=eval o X.env:=by rfl) (hline:(apos.endLine == cpos.line)=true:=by rfl):PE X (.Call (.Attribute o name apos) [] [] cpos) (tBM0 X.K T r to):=by
 intro pins s σ H Q I h
 refine wpAny_Call_method0_late hbase hline (thn (ho pins s σ H _ I h) fun v s1 ⟨x,H1,I1,r1,ty,q1⟩=>?_)
 obtain ⟨h1,h2⟩:=J1J I1 r1 ty
 exact ⟨T,id,pa,slot,hty,h1,h2,Calls.callWith_builtin rfl (PySem.evalArgs_none (hm pins s1 σ H1 x [] v [] Q I1 r1 .nil q1))⟩
theorem Z1h (pa:PlainAttrs T) (slot:Slot T name id) (hty:typeOf (.builtin id)=pure (.type "method_descriptor")) (hm:MtR X id r) (ho:PE X o to) (ha:PA X (e::es) t)
  (hbase:attributeBase o name X.env (eval o X.env)=eval o X.env:=by rfl)
  (hfew:((backTo cpos (starEach (e::es) X.env)).all (fun x=>!x.1)&&(backToKw cpos (keywordEach [] X.env)).all (fun x=>x.1.isSome)
   && decide ((e::es).length+([]:List Keyword).length+(if ([]:List Keyword).isEmpty then 0 else 1) < 30))=true:=by rfl)
  (hline:(apos.endLine == cpos.line)=true:=by rfl) (hs:starEach (e::es) X.env=(false,eval e X.env)::starEach es X.env:=by rfl) (hplain:(backTo cpos (starEach es X.env)).any (·.1)=false:=by rfl) :
  PE X (.Call (.Attribute o name apos) (e::es) [] cpos) (tBM X.K T r to t):=by
 intro pins s σ H Q I h
 refine wpAny_Call_method_late hbase hfew hline rfl (thn (ho pins s σ H _ I h) fun v s1 ⟨x,H1,I1,r1,ty,q1⟩=>?_)
 obtain ⟨h1,h2⟩:=J1J I1 r1 ty
 refine ⟨T,id,pa,slot,hty,h1,h2,?_⟩
 have hA:=ha cpos pins s1 σ H1 _ I1 q1
 rw [hs] at hA ⊢
 refine Calls.callWith_builtin (by show (false || (backTo cpos (starEach es X.env)).any (·.1))=false; rw [hplain] <;> rfl) (Calls.evalArgs_plain ?_)
 exact thn hA fun us s2 ⟨vs,H2,I2,r2,q2⟩=>hm pins s2 σ H2 x vs v us Q I2 r1 r2 q2
end
end L2
namespace L2
open PySem PySem.Spec PyProof.Rows
def MtM (X:Cx) (id:String) (r:V→List V→Hp→VK→Prop):Prop:=
 ∀ (pins:List (Addr×Obj)) (s:Shared) (σ:St) (H:Hp) (x:V) (xs:List V) (v:Value) (us:List Value) (Q:VK),Inv X pins σ H s→RelV x v→Vals xs us→r x xs H Q →
  wpAny (model X.prog X.w) X.A (call (.builtin id) (v::us)) (EP X pins σ Q) X.xe s
theorem Vals.one:∀ {x:V} {us:List Value},Vals [x] us→∃ u,us=[u]∧RelV x u
 | _,_,.cons r .nil=>⟨_,rfl,r⟩
theorem Vals.two:∀ {x y:V} {us:List Value},Vals [x,y] us→∃ u v,us=[u,v]∧RelV x u∧RelV y v
 | _,_,_,.cons r (.cons q .nil)=>⟨_,_,rfl,r,q⟩
theorem Vals.zero:∀ {us:List Value},Vals [] us→us=[]
 | _,.nil=>rfl
theorem Vals.dropLast {xs:List V} {us:List Value} (h:Vals xs us):Vals xs.dropLast us.dropLast:=by
 induction h with
 | nil=>exact .nil
 | cons r t ih=>
  cases t with
  | nil=>exact .nil
  | cons q t'=>exact .cons r ih
theorem Vals.rep {xs:List V} {us:List Value} (h:Vals xs us):∀ k:Nat,Vals (List.replicate k xs).flatten (List.replicate k us).flatten
 | 0=>.nil
 | k+1=>by
  rw [List.replicate_succ,List.replicate_succ,List.flatten_cons,List.flatten_cons]
  exact Vals.append h (Vals.rep h k)
theorem Z7E {α:Type} (l:List α):l.eraseIdx (l.length - 1)=l.dropLast:=by
 induction l with
 | nil=>rfl
 | cons a r ih=>
  cases r with
  | nil=>rfl
  | cons b r=>
   have e:(a::b::r).length - 1=((b::r).length - 1)+1:=by
    have h1:(a::b::r).length=r.length+2:=rfl
    have h2:(b::r).length=r.length+1:=rfl
    omega
   rw [e,List.eraseIdx_cons_succ,ih]
   all_goals rfl
theorem Z4c (its:List Value):∀ (k:Nat) (acc:List Value),
  List.foldl (fun x1 x2=>x1++x2) acc.toArray (List.replicate k its.toArray)=(acc++(List.replicate k its).flatten).toArray
 | 0,acc=>by simp
 | k+1,acc=>by
  have e:acc.toArray++its.toArray=(acc++its).toArray:=by simp
  have e2:(acc++its)++(List.replicate k its).flatten=acc++(List.replicate (k+1) its).flatten:=by
   rw [List.replicate_succ,List.flatten_cons,List.append_assoc]
  rw [← e2,← Z4c its k (acc++its),← e,List.replicate_succ,List.foldl_cons]
section
variable {X:Cx} {pins:List (Addr×Obj)} {σ:St} {H:Hp} {s:Shared} {l b:Addr} {xs ys zs:List V}
theorem Inv.lset {its its':List Value} {n:Nat} {f:Array Value→Array Value} {t':Nat} (I:Inv X pins σ H s) (hH:H l=some (.lst xs))
  (e:s.heap.get? l=some { cls:=.type "list",data:=.seq its.toArray n }) (hf:f its.toArray=its'.toArray) (hv:Vals ys its') (hz:ys.length≤sizeLine) :
  Inv X pins σ (upd H l (.lst ys)) { s with heap:=s.heap.update l (Obj.mapSeq f),toks:=t' }:=by
 have q:=PySem.IsL.update e f
 rw [hf] at q
 refine I.write (x:=l) (e:=l) (by rw [hH]; exact trivial) (.inl rfl) (fun b' u hb hu=>(Heap.get?_update_other s.heap (Obj.mapSeq f) (Ne.symm hb)).trans hu) ⟨_,q⟩ ?_
 exact ⟨hz,its',_,hv,q⟩
theorem Inv.lnew {its:List Value} {t':Nat} (I:Inv X pins σ H s) (hv:Vals ys its) (hz:ys.length≤sizeLine) :
  Inv X pins σ (upd H s.heap.objs.size (.lst ys)) { s with heap:=s.heap.push { cls:=.type "list",data:=.seq its.toArray },toks:=t' }:=
 I.laid (fun _ _ q=>Heap.get?_push_of_some _ q) (Nat.le_refl _) ⟨hz,its,0,hv,Heap.get?_push_size _ rfl⟩
theorem Inv.fresh (I:Inv X pins σ H s):H s.heap.objs.size=none:=I.hok.fresh (Nat.le_refl _)
theorem Inv.lstM (I:Inv X pins σ H s) (hH:H l=some (.lst xs)):xs.length≤sizeLine∧∃ (its:List Value) (n:Nat),Vals xs its∧xs.length=its.length∧s.heap.get? l=some { cls:=.type "list",data:=.seq its.toArray n }:=by
 obtain ⟨z,its,n,r,e⟩:=I.hok l _ hH
 exact ⟨z,its,n,r,r.length,e⟩
theorem Z6T {n:Nat} (h:n≤sizeLine):Builtin.List.listTooLong n=false:=by
 unfold Builtin.List.listTooLong
 exact decide_eq_false (by omega)
end
section
variable {X:Cx}
def Z8o:V→List V→Hp→VK→Prop:=fun x vs H Q=>∃ l xs y,x=.ref l∧vs=[y]∧H l=some (.lst xs)∧xs.length < sizeLine∧Q .non (upd H l (.lst (xs++[y])))
theorem Z0z:MtM X "list.append" Z8o:=by
 intro pins s σ H x vs v us Q I rx rv h
 obtain ⟨l,xs,y,rfl,rfl,hH,hz,q⟩:=h
 cases rx
 obtain ⟨u,rfl,ru⟩:=rv.one
 obtain ⟨z,its,n,r,hl,e⟩:=I.lstM hH
 refine call_meets F.slot_list_append ⟨_,e,rfl⟩ F.entry_list_append (F.args_list_append_2 _ _) (PySem.list_append l its.toArray n u (by rw [List.size_toArray]; omega)) ⟨e,?_⟩
 refine ⟨.non,_,I.lset (its':=its++[u]) hH e (by simp) (r.append (.cons ru .nil)) ?_,rfl,q⟩
 rw [List.length_append,List.length_singleton]
 omega
def Z8x:V→List V→Hp→VK→Prop:=fun x vs H Q=>∃ l b xs zs,x=.ref l∧vs=[.ref b]∧H l=some (.lst xs)∧H b=some (.lst zs)∧xs.length+zs.length≤sizeLine∧Q .non (upd H l (.lst (xs++zs)))
theorem Z2A:MtM X "list.extend" Z8x:=by
 intro pins s σ H x vs v us Q I rx rv h
 obtain ⟨l,b,xs,zs,rfl,rfl,hH,hB,hz,q⟩:=h
 cases rx
 obtain ⟨u,rfl,ru⟩:=rv.one
 cases ru
 obtain ⟨z,its,n,r,hl,e⟩:=I.lstM hH
 obtain ⟨z2,its2,n2,r2,hl2,e2⟩:=I.lstM hB
 have hsz:its.toArray.size+its2.toArray.size≤sizeLine:=by rw [List.size_toArray,List.size_toArray]; omega
 have hlong:¬ (!its.toArray.isEmpty&&Builtin.List.listTooLong (its.toArray.size+its2.toArray.size))=true:=by
  rw [Z6T hsz,Bool.and_false]
  exact Bool.false_ne_true
 refine call_meets F.slot_list_extend ⟨_,e,rfl⟩ F.entry_list_extend (F.args_list_extend_2 _ _)
  (AutoSeq1.list_extend_list_list_0 l its.toArray n b its2.toArray n2 hlong (by rw [List.size_toArray]; omega) (by omega)) ⟨e,e2,?_⟩
 refine ⟨.non,_,I.lset (its':=its++its2) hH e (by simp) (r.append r2) ?_,rfl,q⟩
 rw [List.length_append]
 omega
def rPop:V→List V→Hp→VK→Prop:=fun x vs H Q=>∃ l xs y,x=.ref l∧vs=[]∧H l=some (.lst xs)∧xs[xs.length - 1]?=some y∧Q y (upd H l (.lst xs.dropLast))
theorem Z8Q:MtM X "list.pop" rPop:=by
 intro pins s σ H x vs v us Q I rx rv h
 obtain ⟨l,xs,y,rfl,rfl,hH,hy,q⟩:=h
 cases rx
 have hus:=rv.zero
 subst hus
 obtain ⟨z,its,n,r,hl,e⟩:=I.lstM hH
 obtain ⟨u,hu,ru⟩:=r.get hy
 have hy':its.toArray[its.toArray.size - 1]?=some u:=by
  show its.toArray[its.length - 1]?=some u
  rw [← Array.getElem?_toList,← hl]
  exact hu
 refine call_meets F.slot_list_pop ⟨_,e,rfl⟩ F.entry_list_pop (F.args_list_pop_1 _) (MeetsSeq.list_pop_last l its.toArray n u hy' (by rw [List.size_toArray]; omega)) ⟨e,?_⟩
 refine ⟨y,_,I.lset (its':=its.dropLast) hH e ?_ r.dropLast ?_,ru,q⟩
 ·show its.toArray.eraseIdxIfInBounds (its.toArray.size - 1)=its.dropLast.toArray
  rw [List.size_toArray,List.eraseIdxIfInBounds_toArray,Z7E]
 ·rw [List.length_dropLast]
  omega
def J3C:V→List V→Hp→VK→Prop:=fun x vs H Q=>∃ l xs i k y,x=.ref l∧vs=[.int i]∧H l=some (.lst xs)∧-(2 ^ 63)≤i∧i < 2 ^ 63∧seqIndex? i xs.length=some k∧xs[k]?=some y∧Q y (upd H l (.lst (xs.eraseIdx k)))
def J0X:V→List V→Hp→VK→Prop:=fun x vs H Q=>∃ l xs,x=.ref l∧vs=[]∧H l=some (.lst xs)∧Q .non (upd H l (.lst xs.reverse))
def J3O:V→List V→Hp→VK→Prop:=fun x vs H Q=>∃ l xs,x=.ref l∧vs=[]∧H l=some (.lst xs)∧Q .non (upd H l (.lst []))
def rCat:R2:=fun x y H Q=>∃ l b xs zs,x=.ref l∧y=.ref b∧H l=some (.lst xs)∧H b=some (.lst zs)∧xs.length+zs.length≤sizeLine∧∀ p,H p=none→Q (.ref p) (upd H p (.lst (xs++zs)))
theorem Z2D:OpR X (binaryOp .Add) rCat:=by
 intro pins s σ H x y v u Q I rx ry h
 obtain ⟨l,b,xs,zs,rfl,rfl,hH,hB,hz,q⟩:=h
 cases rx
 cases ry
 obtain ⟨z,its,n,r,hl,e⟩:=I.lstM hH
 obtain ⟨z2,its2,n2,r2,hl2,e2⟩:=I.lstM hB
 refine PySem.P.add_list e e2 ?_ (by rw [List.size_toArray,List.size_toArray]; omega)
 have ea:its.toArray++its2.toArray=(its++its2).toArray:=by simp
 rw [ea]
 exact ⟨.ref _,_,I.lnew (t':=s.toks) (r.append r2) (by rw [List.length_append]; omega),rfl,q _ I.fresh⟩
def rRep:R2:=fun x y H Q=>∃ l k xs,x=.ref l∧y=.int k∧H l=some (.lst xs)∧-(2 ^ 63)≤k∧k < 2 ^ 63∧xs.length * k.toNat≤sizeLine ∧
 ∀ p,H p=none→Q (.ref p) (upd H p (.lst (List.replicate k.toNat xs).flatten))
theorem Z9s {α:Type} (xs:List α) (k:Nat):(List.replicate k xs).flatten.length=k * xs.length:=by
 induction k with
 | zero=>simp
 | succ k ih=>rw [List.replicate_succ,List.flatten_cons,List.length_append,ih,Nat.succ_mul,Nat.add_comm]
theorem Z6K:OpR X (binaryOp .Mult) rRep:=by
 intro pins s σ H x y v u Q I rx ry h
 obtain ⟨l,k,xs,rfl,rfl,hH,h1,h2,hz,q⟩:=h
 cases rx
 obtain ⟨t,rfl⟩:=ry
 obtain ⟨z,its,n,r,hl,e⟩:=I.lstM hH
 have hlen:its.toArray.size * k.toNat≤sizeLine:=by rw [List.size_toArray,← hl]; exact hz
 have hcap:¬ its.toArray.size * k.toNat > (2 ^ 63 - 1) / 8:=by
  have:(sizeLine:Nat)≤(2 ^ 63 - 1) / 8:=by decide
  omega
 have hfit:¬ (!Builtin.List.listFitsIndex k)=true:=by
  rw [fitsIndex_both h1 h2]
  exact Bool.false_ne_true
 have hlong:¬ Builtin.List.listTooLong (its.toArray.size * k.toNat)=true:=by
  rw [Z6T hlen]
  exact Bool.false_ne_true
 have hnew:List.foldl (fun x1 x2=>x1++x2) #[] (List.replicate (if its.toArray.isEmpty=true then 0 else k.toNat) its.toArray)=(List.replicate k.toNat its).flatten.toArray:=by
  have f0:∀ m:Nat,List.foldl (fun x1 x2=>x1++x2) #[] (List.replicate m its.toArray)=(List.replicate m its).flatten.toArray:=fun m=>by
   have:=Z4c its m []
   rw [List.nil_append] at this
   exact this
  rw [f0]
  cases its with
  | nil=>simp
  | cons a r'=>rw [if_neg (by simp)]
 refine wpAny_binaryOp_repeat_ref (T:="list") (U:="int") (by decide) ⟨_,e,rfl⟩ (fun s'=>typeIs_int s' k t) noFill_list_mul F.fills_int_mul F.slot_int_rmul repeat_list F.slot_int_index.lookup
  (call_meets F.slot_int_rmul (typeIs_int s k t) F.entry_int_rmul (F.args_int_rmul_2 _ _) (int___rmul___int_list k t l its.toArray n)
   ⟨e,rfl,⟨_,e,rfl⟩,call_meets F.slot_list_mul ⟨_,e,rfl⟩ F.entry_list_mul (F.args_list_mul_2 _ _) (AutoListH.list___mul___list_int_3 l its.toArray n k t hfit hcap hlong) ⟨e,?_⟩⟩)
 rw [hnew]
 exact ⟨.ref _,_,I.lnew (t':=s.toks) (r.rep k.toNat) (by rw [Z9s,Nat.mul_comm]; exact hz),rfl,q _ I.fresh⟩
end
section
variable {prog:Program} {w:World} {A:Around} {E:Value→Shared→Prop} {s:Shared}
set_option maxRecDepth 100000 in
end
section
variable {X:Cx}
end
end L2
namespace Att
open PySem PySem.W PySem.Calls PyProof.Rows
theorem Z4d {P:Params} {h:Heap}:∀ (ns:List Int) (vs:List Value),WellAll P h vs (ns.map WData.int)→IntsAre vs ns:=by
 intro ns
 induction ns with
 | nil=>
  intro vs w
  rw [List.map_nil] at w
  cases w
  exact .nil
 | cons n ns ih=>
  intro vs w
  rw [List.map_cons] at w
  cases w with
  | cons a b=>
   cases a
   exact .cons _ _ (ih _ b)
theorem Z9I {l:OpenLaw} {n:Nat} (hn:l.most=some n) {P:Params} {h:Heap} {args:List WData} {vals:List Value}
  (hpre:l.row.toRowW.claim.pre args=true) (hwl:WellAll P h vals args) :
  ∃ a vs ns,vals=[Value.ref a]∧args=[WData.list (ns.map WData.int)]∧h.get? a=some { cls:=.type "list",data:=.seq vs.toArray }∧IntsAre vs ns∧ns.length≤n:=by
 have hsh:WShape.hasAll [] args [.list .int]=true:=(pre_splitW hpre).1
 have hc:l.pre.holds [] { args:=args }=true:=(pre_splitW hpre).2
 obtain ⟨d,r,rfl,h1,h2⟩:=hasAllW_cons hsh
 obtain rfl:=hasAllW_nil h2
 obtain ⟨xs,rfl,h3⟩:=hasW_list h1
 obtain ⟨ns,rfl⟩:=items_int h3
 have hlen:ns.length≤n:=by
  unfold OpenLaw.pre at hc
  have h4:(WTm.not (.lt (.lit (.int (n:Int))) (.len (.arg 0)))).holds [] { args:=[.list (ns.map .int)] }=true:=by
   have h4:=(holds_andW hc).1
   rw [hn] at h4
   exact h4
  have h5:=condW_of h4 (w_not (w_lt w_lit (w_len_list (w_arg rfl))))
  rw [List.length_map] at h5
  refine Nat.le_of_not_lt fun q=>?_
  have q':(n:Int) < ((ns.length:Nat):Int):=by omega
  first
   | (rw [decide_eq_true q'] at h5; exact absurd h5 (by decide))
   | (simp at h5; omega)
 cases hwl with
 | cons w1 w2=>
  cases w2
  cases w1 with
  | list ho hall=>exact ⟨_,_,ns,rfl,rfl,ho,Z4d ns _ hall,hlen⟩
theorem Z8F (l:OpenLaw) (args:List WData):l.row.toRowW.claim.post args (.bool true) args=true:=
 postW_of (r:=l.row.toRowW) (X:=(true == true))
  (show WShape.has [] (.bool true) .bool=true by first | rfl | decide | simp [WShape.has,WShape.arms,WShape.armsAll])
  (show (WTm.eq .res (.lit (.bool true))).value [] { args:=args,res:=some (.bool true),after:=args }=some (.bool (true == true)) from w_eq_bool (w_res rfl) w_lit) rfl
theorem attach_call {l:OpenLaw} {n:Nat} {q:Program} {loose:List Str} {XP:(Str→Option Value)→Heap→Prop} {YP:World→Heap→Prop} {d:DefRec}
  (hn:l.most=some n) (hdf:d.params.defaults=[])
  (call:∀ (w:World) (s₀ s₁:Shared) (mg mb:Str→Option Value) (fa:Addr) (o:Obj) (pm cd doc:Value) (a:Addr) (vs:List Value) (ns:List Int),
   Ground q loose [] XP w s₀ mg mb s₁.heap→YP w s₁.heap →
   s₁.heap.get? fa=some o→o.data=.func (docDef d.name d.params d.body d.scope pm cd doc)→s₁.heap.CodeRec cd d.name→mg d.name=some (.ref fa) →
   s₁.heap.get? a=some { cls:=.type "list",data:=.seq vs.toArray }→IntsAre vs ns→ns.length≤n→s₁.gens=#[] →
   codeAny (model l.prog w) callerA (.call (.ref fa) ⟨[.ref a],[]⟩) (fun r s'=>r=.ok (.ret (.bool true))∧OldK s₁.heap s'.heap∧s'.os=s₁.os∧AllBare s'.gens) s₁) :
  WalkO q loose XP YP l.row.toRowW d [] (fun f vs=>PySem.call f vs):=by
 intro w s₀ s₁ mg mb G Y fa o pm cd doc dV kV ho hd hcd hD hmg hg args vals as hpre hlay hrd hwl hlo
 obtain rfl:dV=.none:=Dflts.none hD hdf
 obtain rfl:kV=.none:=Dflts.noKw hD
 obtain ⟨a,vs,ns,rfl,rfl,hobj,hints,hlen⟩:=Z9I hn hpre hwl
 refine enter_call (codeAny_mono (call w s₀ s₁ mg mb fa o pm cd doc a vs ns G Y ho (fd_plain hd) hcd hmg hobj hints hlen hg) fun r s' hq=>?_)
 obtain ⟨rfl,h2,h3,h4⟩:=hq
 exact ⟨.inl ⟨.bool true,.bool true,[],rfl,fun _=>rfl,.bool true,Z8F l _,fun _=>⟨List.Pairwise.nil,fun _ hm=>(nomatch hm)⟩⟩,h2,h3,h4⟩
section
variable {prog:Program} {w:World} {A:Around} {E:Value→Shared→Prop} {s:Shared} {K:Frag}
def Z5I (h:Heap):Heap:={ h with objs:=#[] }
theorem Z3I (h:Heap) (b:Addr):(Z5I h).get? b=none:=by
 cases e:(Z5I h).get? b with
 | none=>rfl
 | some o=>exact absurd (Heap.lt_size e) (Nat.not_lt_zero _)
def Z7x (h:Heap) (L d:Addr):List (Addr×Obj):=(List.range h.objs.size).filterMap fun a=>if a=L∨a=d then none else (h.get? a).map fun o=>(a,o)
theorem mem_ledger {h:Heap} {L d a:Addr} {o:Obj}:(a,o)∈Z7x h L d↔a≠L∧a≠d∧h.get? a=some o:=by
 unfold Z7x
 rw [List.mem_filterMap]
 constructor
 ·rintro ⟨b,_,e⟩
  split at e
  ·cases e
  ·rename_i hb
   obtain ⟨o',ho,e'⟩:=Option.map_eq_some_iff.mp e
   cases e'
   exact ⟨fun q=>hb (.inl q),fun q=>hb (.inr q),ho⟩
 ·rintro ⟨n1,n2,ho⟩
  refine ⟨a,List.mem_range.mpr (Heap.lt_size ho),?_⟩
  rw [if_neg (show ¬ (a=L∨a=d) from fun q=>q.elim n1 n2),ho] <;> rfl
theorem Z6s {h:Heap} {L d:Addr} {od:Obj} (hne:d≠L) (ho:h.get? d=some od):News (Z5I h) L h ([]++(d,od)::Z7x h L d):=by
 rintro ⟨a,o⟩ hp
 rcases List.mem_cons.mp hp with e | hp
 ·cases e
  exact ⟨ho,hne,Z3I _ _⟩
 ·obtain ⟨n1,n2,e⟩:=mem_ledger.mp hp
  exact ⟨e,n1,Z3I _ _⟩
theorem J3T {h:Heap} {L:Addr} {m:Str→Option Value} (n:h.Ns L m):Fr (Z5I h) L h m:=
 ⟨n,fun b o e=>(by rw [Z3I] at e; cases e),Nat.zero_le _⟩
theorem J4i {x C dx L:Addr} {ox:Obj} {m:Str→Option Value} {es es':List DictEntry} {n n':Nat} {name:Str} {v:Value} {Q:Unit→Shared→Prop}
  (X:K.In s.heap) (I:W.InstAt s.heap x ox C (some (dictOf es n))) (hd:ox.dict=some dx) (hL:s.heap.Ns L m) (hne:dx≠L)
  (hs:findIn K (.ref C) "__setattr__"=some (some (.builtin "object.__setattr__"))) (hp:plainOver K C=true) (ht:takerIn K C name=some none) (hh:hasDictIn K C=true) (hl:(getL name es).isSome=true)
  (e:(putL name (PyData.keyHash w.params name) (.str name (s.toks+1)) v es,putN name es n)=(es',n')) (hz:es'.length≤1000)
  (h:∀ h':Heap,h'.Ns L m→h'.get? dx=some (dictOf es' n')→(∀ b o,b≠dx→b≠L→s.heap.get? b=some o→h'.get? b=some o)→Q () { s with heap:=h',toks:=s.toks+2 }) :
  wpAny (model prog w) A (setAttr (.ref x) name v) Q E s:=by
 obtain ⟨e1,e2⟩:=Prod.mk.inj e
 have hdx:s.heap.get? dx=some (dictOf es n):=by
  have:=I.dict
  rw [hd] at this
  exact this
 refine set_plain X I hs (osa_dict (s:={ s with toks:=s.toks+1 }) (h₀:=Z5I s.heap) (L:=L) (m:=m) (od:=dictOf es n) (od':=dictOf es' n') (es:=es') (n:=n') (pre:=[]) (post:=Z7x s.heap L dx)
  (J3T hL) (Z6s hne hdx) X I hd hp ht hh hl (fun _ q=>nomatch q) (fun ⟨_,_⟩ q=>(mem_ledger.mp q).2.1) (by rw [putName_dict,e1,e2]) rfl hz fun h' F' N'=>?_)
 exact h h' F'.ns (N'.get (List.Mem.head _)) fun b o n1 n2 ho=>N'.get (List.Mem.tail _ (mem_ledger.mpr ⟨n2,n1,ho⟩))
end
end Att
namespace L2
open PySem PySem.Spec PyProof.Rows
theorem Z5J:∀ {vs:List Value} {ns:List Int},IntsAre vs ns→Vals (ns.map V.int) vs
 | _,_,.nil=>.nil
 | _,_,.cons n t h=>.cons ⟨t,rfl⟩ (Z5J h)
def Only (H:Hp):Prop:=∀ b,H b=none∨∃ o xs,H b=some (.frz o (.lst xs))
theorem J0O {P:Program} {w:World} {K:W.Frag} {mg mb:Str→Option Value} {CX:CXT} {k:Nat} {fa a:Addr} {fd:FuncData} {x:Str} {sp:Sp} {s₁:Shared} {vs:List Value} {ns:List Int}
  (KX:K.In s₁.heap) (hns:s₁.heap.Ns mainGlobals mg) (hb:s₁.heap.Ns builtinsNs mb) (hbb:∀ x:Str,x≠"__name__"→mb x=bootBuiltins x) (hlim:s₁.heap.NoLimit) (hg:s₁.gens=#[])
  (ha:s₁.heap.get? a=some { cls:=.type "list",data:=.seq vs.toArray }) (hi:IntsAre vs ns) (hl:ns.length≤sizeLine) (hr:Room k callerA)
  (F:∀ base:Heap,K.In base→base.Ns mainGlobals mg→FnOk P w K mg base CX k fa fd [x] sp) (hbind:∀ (s:Shared) (u:Value),BindsTo s fd ⟨[u],[]⟩ [(x,u)])
  (hsp:∀ H:Hp,Only H→SqL K H a (ns.map V.int)→sp [.ref a] H (fun v _=>v=.bl true) fun _ _ _=>False)
  (hCX:∀ H e s',CX [] H s₁ (fun _ _ _=>False) e s'→False) :
  codeAny (model P w) callerA (.call (.ref fa) ⟨[.ref a],[]⟩) (fun r s'=>r=.ok (.ret (.bool true))∧OldK s₁.heap s'.heap∧s'.os=s₁.os∧AllBare s'.gens) s₁:=by
 have rv:=Z5J hi
 have lenV:=hi.length
 -- from an abstract heap in which nothing but the script may be tracked
 have core:∀ H:Hp,Only H→SqL K H a (ns.map V.int)→HOk P w H s₁.heap→(∀ b,H b≠none→b=a)→(H a≠none→K.lookup a=none) →
   codeAny (model P w) callerA (.call (.ref fa) ⟨[.ref a],[]⟩) (fun r s'=>r=.ok (.ret (.bool true))∧OldK s₁.heap s'.heap∧s'.os=s₁.os∧AllBare s'.gens) s₁:=by
  intro H hO hS hok hA hK
  have base_of:∀ {b:Addr} {o:Obj},s₁.heap.get? b=some o→H b=none→(hidT s₁.heap H).get? b=some o:=fun e n=>J0w e n
  have noA:∀ {b:Addr} {o:Obj} {es:Array DictEntry} {ep:Nat},s₁.heap.get? b=some o→o.data=.dict es ep→H b=none:=fun {b o es ep} e d=>by
   cases q:H b with
   | none=>rfl
   | some u=>
    have e':b=a:=hA b (by rw [q]; simp)
    subst e'
    rw [ha] at e; cases e
    have d':Data.seq vs.toArray _=Data.dict es ep:=d
    cases d'
  have nsK:∀ {b:Addr} {m:Str→Option Value},s₁.heap.Ns b m→(hidT s₁.heap H).Ns b m:=fun {b m} ⟨o,es,ep,e,d,r⟩=>⟨o,es,ep,base_of e (noA e d),d,r⟩
  have hKb:K.In (hidT s₁.heap H):=fun b o e=>base_of (KX b o e) (by
   cases q:H b with
   | none=>rfl
   | some u=>
    have e':b=a:=hA b (by rw [q]; simp)
    subst e'
    rw [hK (by rw [q]; simp)] at e; cases e)
  have hM:Mod K mg (hidT s₁.heap H):=⟨hKb,nsK hns,⟨mb,nsK hb,hbb⟩,let ⟨mc,h1,h2⟩:=hlim; ⟨mc,nsK h1,h2⟩⟩
  have e0:Env0 P w K mg (hidT s₁.heap H) callerA [] s₁ H:=⟨rfl,hM,fun b o e=>J2R e,Nat.le_of_eq (Z9B _ _),trivial,fun b hb=>absurd (show b∈([]:List Addr) from hb) (by simp),hok,.of_eq hg⟩
  refine codeAny_mono ((F _ hKb (nsK hns)).run callerA [] s₁ H ⟨[.ref a],[]⟩ [.ref a] [.ref a] _ _ hr e0 (hbind s₁ (.ref a)) (.cons rfl .nil) (hsp H hO hS)) fun r s' h=>?_
  cases r with
  | error e=>exact (hCX H e s' h).elim
  | ok fl=>
   cases fl with
   | next=>exact False.elim h
   | brk=>exact False.elim h
   | cont=>exact False.elim h
   | ret u=>
    obtain ⟨v,H',os,bare,un,hok',r',q⟩:=h
    have q':v=.bl true:=q
    subst q'
    obtain rfl:u=Value.bool true:=r'
    refine ⟨rfl,OldK.of_keep fun b o e=>?_,os,bare⟩
    cases q:H b with
    | none=>exact un.keep b o e q (by intro z; exact absurd (show b∈([]:List Addr) from z) (by simp)) (by simp)
    | some u=>
     rcases hO b with z | ⟨ob,xs,z⟩
     ·rw [q] at z; cases z
     ·have z2:=un.frzs b ob _ z
      obtain ⟨e1,_⟩:=hok b _ z
      obtain ⟨e2,_⟩:=hok' b _ z2
      rw [e] at e1; cases e1
      exact e2
 cases hk:K.lookup a with
 | some o=>
  -- the script is one of the module's own objects
  have e:=KX a o hk
  rw [ha] at e
  cases e
  refine core (fun _=>none) (fun _=>.inl rfl) (.inr ⟨_,vs.toArray,_,hk,rfl,rfl,rfl,by rw [List.size_toArray,lenV]; exact hl,by simpa using rv⟩) (fun b u z=>by have z':(none:Option HO)=some u:=z; cases z') (fun b z=>absurd rfl z) fun z=>absurd rfl z
 | none=>
  refine core (fun b=>if b=a then some (.frz { cls:=.type "list",data:=.seq vs.toArray } (.lst (ns.map V.int))) else none) (fun b=>?_) (.inl (.inr ⟨{ cls:=.type "list",data:=.seq vs.toArray },if_pos rfl⟩)) (fun b u z=>?_) (fun b z=>?_) fun _=>hk
  ·by_cases hb:b=a
   ·exact .inr ⟨_,_,if_pos hb⟩
   ·exact .inl (if_neg hb)
  ·by_cases hb:b=a
   ·have z':=(if_pos hb).symm.trans z
    cases z'
    subst hb
    exact ⟨ha,by rw [List.length_map]; exact hl,vs,_,rv,ha⟩
   ·have z':=(if_neg hb).symm.trans z
    cases z'
  ·by_cases hb:b=a
   ·exact hb
   ·exact absurd (if_neg hb) z
end L2
namespace L2
open PySem PySem.Spec PyProof.Rows
abbrev KOf {K:W.Frag} {h:Heap} (_:K.In h):W.Frag:=K
theorem J3a {l:W.OpenLaw} {n k:Nat} {q:Program} {loose:List Str} {XP:(Str→Option Value)→Heap→Prop} {YP:World→Heap→Prop} {d:DefRec} {K:Params→W.Frag} {CX:World→CXT} {sp:World→Sp} {x:Str}
  (hn:l.most=some n) (hn2:n≤sizeLine) (hdf:d.params.defaults=[]) (hr:Room k callerA)
  (hY:∀ (w:World) (h:Heap),YP w h→(K w.params).In h)
  (F:∀ (w:World) (mg:Str→Option Value) (fa:Addr) (h:Heap),(K w.params).In h→h.Ns mainGlobals mg→mg d.name=some (.ref fa) →
   ∃ fd:FuncData,(∀ (s:Shared) (u:Value),BindsTo s fd ⟨[u],[]⟩ [(x,u)]) ∧
    ∀ base:Heap,(K w.params).In base→base.Ns mainGlobals mg→FnOk l.prog w (K w.params) mg base (CX w) k fa fd [x] (sp w))
  (hsp:∀ (w:World) (H:Hp) (a:Addr) (ns:List Int),ns.length≤n→Only H→SqL (K w.params) H a (ns.map V.int)→sp w [.ref a] H (fun v _=>v=.bl true) fun _ _ _=>False)
  (hCX:∀ (w:World) (H:Hp) (s:Shared) (e:Value) (s':Shared),CX w [] H s (fun _ _ _=>False) e s'→False) :
  W.WalkO q loose XP YP l.row.toRowW d [] (fun f vs=>PySem.call f vs):=by
 refine Att.attach_call hn hdf fun w s₀ s₁ mg mb fa o pm cd doc a vs ns G Y ho hd hcd hmg hobj hints hlen hg=>?_
 have KX:=hY w _ Y
 obtain ⟨fd,hb,hF⟩:=F w mg fa _ KX G.T.g hmg
 exact J0O KX G.T.g G.T.b G.T.builtins G.T.nolimit hg hobj hints (Nat.le_trans hlen hn2) hr hF hb (fun H hO hS=>hsp w H a ns hlen hO hS) fun H e s'=>hCX w H s₁ e s'
theorem J0u {l:W.OpenLaw} {n k:Nat} {q:Program} {loose:List Str} {XP:(Str→Option Value)→Heap→Prop} {YP:World→Heap→Prop} {d:DefRec} {K:Params→W.Frag} {CX:CXT} {sp:W.Frag→Sp} {x:Str}
  (hn:l.most=some n) (hn2:n≤sizeLine) (hdf:d.params.defaults=[]) (hr:Room k callerA)
  (hY:∀ (w:World) (h:Heap),YP w h→(K w.params).In h)
  (F:∀ (w:World) (mg:Str→Option Value) (fa:Addr) (h:Heap),(K w.params).In h→h.Ns mainGlobals mg→mg d.name=some (.ref fa) →
   ∃ fd:FuncData,(∀ (s:Shared) (u:Value),BindsTo s fd ⟨[u],[]⟩ [(x,u)]) ∧
    ∀ base:Heap,(K w.params).In base→base.Ns mainGlobals mg→FnOk l.prog w (K w.params) mg base CX k fa fd [x] (sp (K w.params)))
  (hsp:∀ (K:W.Frag) (H:Hp) (a:Addr) (ns:List Int),ns.length≤n→Only H→SqL K H a (ns.map V.int)→sp K [.ref a] H (fun v _=>v=.bl true) fun _ _ _=>False)
  (hCX:∀ (H:Hp) (s:Shared) (e:Value) (s':Shared),CX [] H s (fun _ _ _=>False) e s'→False) :
  W.WalkO q loose XP YP l.row.toRowW d [] (fun f vs=>PySem.call f vs):=
 J3a (K:=K) (CX:=fun _=>CX) (sp:=fun w=>sp (K w.params)) hn hn2 hdf hr hY F (fun w H a ns h1 h2 h3=>hsp (K w.params) H a ns h1 h2 h3) fun _ H s e s'=>hCX H s e s'
end L2
namespace L2
open PySem PySem.Spec PyProof.Rows
abbrev CX0:CXT:=fun _ _ _ _ _ _=>False
abbrev E0:XK:=fun _ _ _=>False
theorem Z9j {X:Cx}:Z3x CX0 X E0:=fun _ _ _ _ _ _ _ h=>h.elim
structure Fun (K:W.Frag) (x qual:Str) (st:Stmt) (f:Addr) (fd:FuncData):Prop where
 ex:∃ (oc:Value) (od:Option Addr) (kV doc pm:Value) (an:Option Addr) (cdv ct:Value) (osl:Array (Option Value)),
  fd=W.fnOf x qual (Z1p st) (Z1b st) (Z0j st) .none kV doc pm an cdv ct∧K.lookup f=some ⟨oc,od,.func fd,osl⟩∧W.codeIn K cdv qual=true
 kp:W.keepIn K (.ref f)=true
section
variable {P:Program} {w:World} {K:W.Frag} {mg:Str→Option Value} {base:Heap}
theorem Fun.ok {x qual:Str} {st:Stmt} {f:Addr} {fd:FuncData} {N ps:List Str} {k:Nat} {sp:Sp} (F:Fun K x qual st f fd) (S:Z0s N ps (Z0j st)) (len:∀ vs H Q E,sp vs H Q E→vs.length=ps.length)
  (hbody:∀ (cdv:Value) (A:Around) (outer:List Env) (s:Shared) (H:Hp) (vs:List V) (Q:VK) (E:XK),Room k (A.deeper (envOfC qual (Z0j st) s.heap.objs.size f cdv))→sp vs H Q E →
   ∃ t,PSs (cxOf CX0 P w K mg base N qual (Z0j st) f cdv A outer s H E).nox (Z1b st) t∧t { nx:=fun _ H'=>Q .non H',rt:=Q } (Z4i N vs) H):FnOk P w K mg base CX0 (k+1) f fd ps sp:=by
 obtain ⟨oc,od,kV,doc,pm,an,cdv,ct,osl,rfl,lk,hcd⟩:=F.ex
 refine J3z lk hcd S len fun A outer s H vs Q E hr hsp=>?_
 obtain ⟨t,h,q⟩:=hbody cdv A outer s H vs Q E hr hsp
 exact ⟨t,h.nox,q⟩
theorem Fun.binds {x qual:Str} {st:Stmt} {f:Addr} {fd:FuncData} {ps:List Str} (F:Fun K x qual st f fd)
  (h:∀ (kV doc pm:Value) (an:Option Addr) (cdv ct:Value) (us:List Value),us.length=ps.length→bindArgs (W.fnOf x qual (Z1p st) (Z1b st) (Z0j st) .none kV doc pm an cdv ct) ⟨us,[]⟩=pure (ps.zip us)):Binds K fd ps []:=by
 obtain ⟨oc,od,kV,doc,pm,an,cdv,ct,osl,rfl,lk,hcd⟩:=F.ex
 exact .all (h kV doc pm an cdv ct)
theorem J1r {x qual:Str} {st:Stmt} {f:Addr} {oc:Value} {od an:Option Addr} {osl:Array (Option Value)} {kV doc pm cdv ct:Value} (l:K.lookup f=some ⟨oc,od,.func (W.fnOf x qual (Z1p st) (Z1b st) (Z0j st) .none kV doc pm an cdv ct),osl⟩)
  (c:W.codeIn K cdv qual=true) (k:W.keepIn K (.ref f)=true):Fun K x qual st f (W.fnOf x qual (Z1p st) (Z1b st) (Z0j st) .none kV doc pm an cdv ct):=⟨⟨oc,od,kV,doc,pm,an,cdv,ct,osl,rfl,l,c⟩,k⟩
end
theorem Z0F {A:Around} {k:Nat} (hr:Room k A):A.units+1 < cLine:=Nat.lt_of_le_of_lt (Nat.add_le_add_left (by decide:1≤64) _) hr.units
section
variable {X:Cx}
theorem pv (i:Nat) {x:Str} {pos:Pos} (hN:X.N[i]?=some x:=by rfl) (hv:Vis X.env.scope x:=by first | exact Or.inl rfl | exact Or.inr (Or.inl rfl) | exact Or.inr (Or.inr rfl)) (hd:(x == ("__debug__":Str))=false:=by decide)
  (hcd:(x == ("__classdict__":Str))=false:=by decide):PE X (.Name x pos) (tVar i):=J1w hN hv hd hcd
end
theorem iteF {A B:Prop} (h:B):if false=true then A else B:=by
 rw [if_neg Bool.false_ne_true]
 exact h
theorem iteT {A B:Prop} (h:A):if true=true then A else B:=by
 rw [if_pos rfl]
 exact h
theorem ite2 {c A B:Prop} [Decidable c] (h1:c→A) (h2:¬ c→B):if c then A else B:=by
 by_cases h:c
 ·rw [if_pos h]
  exact h1 h
 ·rw [if_neg h]
  exact h2 h
def Same (H H':Hp):Prop:=∀ b o,H b=some o→H' b=some o
theorem Same.refl (H:Hp):Same H H:=fun _ _ h=>h
theorem Same.trans {H H1 H2:Hp} (a:Same H H1) (b:Same H1 H2):Same H H2:=fun c o h=>b c o (a c o h)
theorem Same.free {H H':Hp} (e:Same H H') {l:Addr} (h:H' l=Option.none):H l=Option.none:=by
 cases q:H l with
 | none=>rfl
 | some o=>
  rw [e l o q] at h
  cases h
theorem Same.seq {K:W.Frag} {H H':Hp} {a:Addr} {xs:List V} (e:Same H H') (h:SqL K H a xs):SqL K H' a xs:=by
 rcases h with (h | ⟨o,h⟩) | h
 ·exact .inl (.inl (e _ _ h))
 ·exact .inl (.inr ⟨o,e _ _ h⟩)
 ·exact .inr h
end L2
end
section
namespace L2
open PySem PySem.Spec PyProof.Rows PySem.SeqAt
theorem J6m {i:Nat} {σ:St} {H:Hp} {Q:VK}:tVar i σ H Q=(∃ v,σ[i]?=some (some v)∧Q v H):=rfl
theorem J7q {v:V} {z0:St} {H:Hp} {Q:VK}:tC v z0 H Q=(Q v H):=rfl
theorem J7d {t:TE} {σ:St} {H:Hp} {Q:Bool→Hp→Prop}:tB t σ H Q=(t σ H fun x H1=>∃ c,x=.bl c∧Q c H1):=rfl
theorem J6e {t u:TT} {σ:St} {H:Hp} {Q:Bool→Hp→Prop}:tAnd t u σ H Q=(t σ H fun c H1=>if c=true then u σ H1 Q else Q false H1):=rfl
theorem J6S {t u:TT} {σ:St} {H:Hp} {Q:Bool→Hp→Prop}:tOr t u σ H Q=(t σ H fun c H1=>if c=true then Q true H1 else u σ H1 Q):=rfl
theorem J5R {t:TT} {σ:St} {H:Hp} {Q:Bool→Hp→Prop}:tNot t σ H Q=(t σ H fun c H1=>Q (!c) H1):=rfl
theorem J5c {ta tb:TE} {σ:St} {H:Hp} {Q:VK}:J5I ta tb σ H Q=(ta σ H fun x H1=>∃ c,x=.bl c∧if c=true then tb σ H1 Q else Q (.bl false) H1):=rfl
theorem J6G {ta tb:TE} {σ:St} {H:Hp} {Q:VK}:tOrV ta tb σ H Q=(ta σ H fun x H1=>∃ c,x=.bl c∧if c=true then Q (.bl true) H1 else tb σ H1 Q):=rfl
theorem J5u {ta:TE} {σ:St} {H:Hp} {Q:VK}:J4o ta σ H Q=(ta σ H fun x H1=>∃ c,x=.bl c∧Q (.bl (!c)) H1):=rfl
theorem J7a {t:TT} {ta tb:TE} {σ:St} {H:Hp} {Q:VK}:tIf t ta tb σ H Q=(t σ H fun c H1=>if c=true then ta σ H1 Q else tb σ H1 Q):=rfl
theorem J5l {D:Ends} {σ:St} {H:Hp}:J4w  D σ H=(D.nx σ H):=rfl
theorem J6h {t u:TS} {D:Ends} {σ:St} {H:Hp}:tSeq t u D σ H=(t { D with nx:=u D } σ H):=rfl
theorem J4g {D:Ends} {σ:St} {H:Hp}:J4N  D σ H=(D.bk σ H):=rfl
theorem J5j {D:Ends} {σ:St} {H:Hp}:J6j  D σ H=(D.ct σ H):=rfl
theorem J5y {te:TE} {D:Ends} {σ:St} {H:Hp}:J3x te D σ H=(te σ H fun _ H1=>D.nx σ H1):=rfl
theorem J5X {te:TE} {D:Ends} {σ:St} {H:Hp}:tRet te D σ H=(te σ H D.rt):=rfl
theorem J5D {D:Ends} {z1:St} {H:Hp}:J4c  D z1 H=(D.rt .non H):=rfl
theorem J6D {c:TT} {t u:TS} {D:Ends} {σ:St} {H:Hp}:tIfS c t u D σ H=(c σ H fun b H1=>if b=true then t D σ H1 else u D σ H1):=rfl
theorem J4y {z0:Ends} {z1:St} {z2:Hp}:J4M  z0 z1 z2=(False):=rfl
theorem J4Y {i:Nat} {v:V} {σ:St} {H:Hp} {Q:St→Hp→Prop}:Z3A i v σ H Q=(Q (σ.set i (some v)) H):=rfl
theorem J6p {vs:List V} {σ:St} {H:Hp} {Q:St→Hp→Prop}:gNil  vs σ H Q=(vs=[]∧Q σ H):=rfl
theorem J5g {t:TG} {u:TGs} {vs:List V} {σ:St} {H:Hp} {Q:St→Hp→Prop}:J3P t u vs σ H Q=(∃ v r,vs=v::r∧t v σ H fun σ' H'=>u r σ' H' Q):=rfl
theorem J6A {K:W.Frag} {n:Nat} {t:TGs} {v:V} {σ:St} {H:Hp} {Q:St→Hp→Prop}:gTup K n t v σ H Q=(∃ a xs,v=.ref a∧SqT K H a xs∧xs.length=n∧t xs σ H Q):=rfl
theorem J6y {to ti:TE} {t:TSet} {v:V} {σ:St} {H:Hp} {Q:St→Hp→Prop}:gSub to ti t v σ H Q=(to σ H fun o H1=>ti σ H1 fun i H2=>t o i v H2 fun H3=>Q σ H3):=rfl
theorem J6d {te:TE} {g:TG} {D:Ends} {σ:St} {H:Hp}:tAsg te g D σ H=(te σ H fun x H1=>g x σ H1 D.nx):=rfl
theorem J6r {i j:Nat} {ta:TA} {D:Ends} {σ:St} {H:Hp}:tPar i j ta D σ H=(ta σ H fun vs H1=>∃ v w,vs=[v,w]∧D.nx ((σ.set i (some v)).set j (some w)) H1):=rfl
theorem J6s {i:Nat} {te:TE} {ti:TIp} {D:Ends} {σ:St} {H:Hp}:tAug i te ti D σ H=(∃ x,σ[i]?=some (some x)∧te σ H fun y H1=>ti x y H1 fun z H2=>D.nx (σ.set i (some z)) H2):=rfl
theorem J5d {to ti te:TE} {tget:V→V→Hp→VK→Prop} {tip:TIp} {tset:TSet} {D:Ends} {σ:St} {H:Hp}:J6J to ti te tget tip tset D σ H=(to σ H fun o H1=>ti σ H1 fun i H2=>tget o i H2 fun x H3=>te σ H3 fun y H4=>tip x y H4 fun z H5=>tset o i z H5 fun H6=>D.nx σ H6):=rfl
theorem J6V {f:Int→Int→Int} {x:V} {y:V} {H:Hp} {Q:VK}:ipI f x y H Q=(∃ i j,x=.int i∧y=.int j∧Q (.int (f i j)) H):=rfl
theorem J5r {K:W.Frag} {tl:TE} {σ:St} {H:Hp} {R:It→Hp→Prop}:J4t K tl σ H R=(tl σ H fun x H1=>∃ a,x=.ref a∧(∃ xs,SqL K H1 a xs)∧R (Itl K a) H1):=rfl
theorem J5K {K:W.Frag} {tl:TE} {σ:St} {H:Hp} {R:It→Hp→Prop}:iTup K tl σ H R=(tl σ H fun x H1=>∃ a,x=.ref a∧(∃ xs,SqT K H1 a xs)∧R (Itt K a) H1):=rfl
theorem J5f {ta:TA} {σ:St} {H:Hp} {R:It→Hp→Prop}:J4x ta σ H R=(ta σ H fun vs H1=>∃ j:Int,vs=[.int j]∧-(2 ^ 62)≤j∧j < 2 ^ 62∧R (Itr 0 j.toNat) H1):=rfl
theorem J5o {ta:TA} {σ:St} {H:Hp} {R:It→Hp→Prop}:J6F ta σ H R=(ta σ H fun vs H1=>∃ i j:Int,vs=[.int i,.int j]∧(-(2 ^ 62)≤i∧i < 2 ^ 62∧-(2 ^ 62)≤j∧j < 2 ^ 62)∧R (Itr i (j - i).toNat) H1):=rfl
theorem J6O {r:R2} {ta tb:TE} {σ:St} {H:Hp} {Q:VK}:tOp r ta tb σ H Q=(ta σ H fun x H1=>tb σ H1 fun y H2=>r x y H2 Q):=rfl
theorem J6P {r:V→Hp→VK→Prop} {ta:TE} {σ:St} {H:Hp} {Q:VK}:tUn r ta σ H Q=(ta σ H fun x H1=>r x H1 Q):=rfl
theorem J7h {C:Int→Int→Prop} {g:Int→Int→V} {x:V} {y:V} {H:Hp} {Q:VK}:rI C g x y H Q=(∃ i j,x=.int i∧y=.int j∧C i j∧Q (g i j) H):=rfl
theorem J6Y {g:Int→Int→V} {x:V} {y:V} {H:Hp} {Q:VK}:rI0 g x y H Q=(∃ i j,x=.int i∧y=.int j∧Q (g i j) H):=rfl
theorem J7k {g:Int→V} {x:V} {H:Hp} {Q:VK}:rU g x H Q=(∃ i,x=.int i∧Q (g i) H):=rfl
theorem J6U {x:V} {y:V} {H:Hp} {Q:VK}:rEq  x y H Q=(scal x y=true∧Q (.bl (decide (x=y))) H):=rfl
theorem J6W {x:V} {y:V} {H:Hp} {Q:VK}:rNe  x y H Q=(scal x y=true∧Q (.bl (!decide (x=y))) H):=rfl
theorem J5k {t:TE} {σ:St} {H:Hp} {Q:Bool→Hp→Prop}:J4G t σ H Q=(t σ H fun x H'=>∃ k,x=.bl k∧Q k H'):=rfl
theorem J4J {r r':R2} {ta tb tc:TE} {σ:St} {H:Hp} {Q:VK}:J3v r r' ta tb tc σ H Q=(ta σ H fun x H1=>tb σ H1 fun y H2=>r x y H2 fun z H3=>∃ k,z=.bl k ∧
 (if k=true then tc σ H3 fun w' H4=>r' y w' H4 Q else Q (.bl false) H3)):=rfl
theorem J6t {K:W.Frag} {ta:TE} {f:Str} {σ:St} {H:Hp} {Q:VK}:tFld K ta f σ H Q=(ta σ H fun x H1=>∃ a C dx fs v,x=.ref a∧H1 a=some (.ins C dx fs)∧Cls K C∧NoAttr K C f∧fs.lookup f=some v∧Q v H1):=rfl
theorem J6n {K:W.Frag} {ta:TE} {f:Str} {σ:St} {H:Hp} {Q:VK}:tCon K ta f σ H Q=(ta σ H fun x H1=>∃ a C dx fs v u,x=.ref a∧H1 a=some (.ins C dx fs)∧Cls K C∧Con K C f v u∧fs.lookup f=none∧Q v H1):=rfl
theorem J6c {K:W.Frag} {ta tv:TE} {f:Str} {D:Ends} {σ:St} {H:Hp}:sFld K ta tv f D σ H=(tv σ H fun y H1=>ta σ H1 fun x H2=>∃ a C dx fs,x=.ref a∧H2 a=some (.ins C dx fs)∧Cls K C∧NoAttr K C f∧fs.length < 1000 ∧
 D.nx σ (upd H2 a (.ins C dx (putF f y fs)))):=rfl
theorem J3l {K:W.Frag} {ta tv:TE} {rd:V→V→Hp→VK→Prop} {f:Str} {D:Ends} {σ:St} {H:Hp}:J2f K ta tv rd f D σ H=(ta σ H fun x H1=>∃ a C dx fs v,x=.ref a∧H1 a=some (.ins C dx fs)∧Cls K C∧NoAttr K C f∧fs.lookup f=some v ∧
 tv σ H1 fun y H2=>rd v y H2 fun z H3=>∃ dx' fs',H3 a=some (.ins C dx' fs')∧fs'.length < 1000∧D.nx σ (upd H3 a (.ins C dx' (putF f z fs')))):=rfl
theorem J5L {z0:St} {H:Hp} {Q:List V→Hp→Prop}:tNil  z0 H Q=(Q [] H):=rfl
theorem J5n {ta:TE} {tr:TA} {σ:St} {H:Hp} {Q:List V→Hp→Prop}:J3I ta tr σ H Q=(ta σ H fun x H1=>tr σ H1 fun xs H2=>Q (x::xs) H2):=rfl
theorem J5b {sp:Sp} {dvs:List V} {E:XK} {t:TA} {σ:St} {H:Hp} {Q:VK}:J2y sp dvs E t σ H Q=(t σ H fun vs H1=>sp (vs++dvs) H1 Q E):=rfl
theorem J4W {C:Addr} {m:Str} {sp:Sp} {dvs:List V} {E:XK} {ta:TE} {t:TA} {σ:St} {H:Hp} {Q:VK}:Z9A C m sp dvs E ta t σ H Q=(ta σ H fun x H1=>∃ a dx fs,x=.ref a∧H1 a=some (.ins C dx fs)∧fs.lookup m=none ∧
 t σ H1 fun vs H2=>sp (x::(vs++dvs)) H2 Q E):=rfl
theorem J5E {C:Addr} {sp:Sp} {dvs:List V} {E:XK} {t:TA} {σ:St} {H:Hp} {Q:VK}:J2X C sp dvs E t σ H Q=(t σ H fun vs H1=>∀ x dx,H1 x=none→H1 dx=none→dx≠x →
 sp (.ref x::(vs++dvs)) (upd (upd H1 dx (.own x)) x (.ins C dx [])) (fun v H2=>v=.non∧Q (.ref x) H2) E):=rfl
theorem J6X {r:List V→Hp→VK→Prop} {t:TA} {σ:St} {H:Hp} {Q:VK}:tCB r t σ H Q=(t σ H fun vs H1=>r vs H1 Q):=rfl
theorem J3k {z0:St} {H:Hp} {Q:Option Int→Hp→Prop}:J0c  z0 H Q=(Q none H):=rfl
theorem J5s {t:TE} {σ:St} {H:Hp} {Q:Option Int→Hp→Prop}:J3W t σ H Q=(t σ H fun x H1=>∃ i,x=.int i∧Q (some i) H1):=rfl
theorem J6Q {r:V→Option Int→Option Int→Hp→VK→Prop} {te:TE} {tl th:TO} {σ:St} {H:Hp} {Q:VK}:tSl r te tl th σ H Q=(te σ H fun x H1=>tl σ H1 fun l H2=>th σ H2 fun u H3=>r x l u H3 Q):=rfl
theorem J5U {K:W.Frag} {x:V} {lo:Option Int} {hi:Option Int} {H:Hp} {Q:VK}:rSlT K x lo hi H Q=(∃ a xs,x=.ref a∧SqT K H a xs ∧
 ¬ (HT.sIx xs.length 0 lo=0∧HT.sIx xs.length xs.length hi=xs.length)∧∀ p,H p=none→Q (.ref p) (upd H p (.tup (cutV xs lo hi)))):=rfl
theorem J5m {K:W.Frag} {x:V} {y:V} {H:Hp} {Q:VK}:J3p K x y H Q=(∃ a b xs ys,x=.ref a∧y=.ref b∧SqT K H a xs∧SqT K H b ys∧xs≠[]∧xs.length+ys.length≤sizeLine ∧
 (ys=[]→Q (.ref a) H)∧(ys≠[]→∀ p,H p=none→Q (.ref p) (upd H p (.tup (xs++ys))))):=rfl
theorem J6k {K:W.Frag} {x:V} {y:V} {H:Hp} {Q:VK}:rIxL K x y H Q=(∃ p xs i v,x=.ref p∧y=.int i∧SqL K H p xs∧atI xs i=some v∧Q v H):=rfl
theorem J6g {K:W.Frag} {x:V} {y:V} {H:Hp} {Q:VK}:rIxT K x y H Q=(∃ p xs i v,x=.ref p∧y=.int i∧SqT K H p xs∧atI xs i=some v∧Q v H):=rfl
theorem J6z {x:V} {y:V} {H:Hp} {Q:VK}:rIxS  x y H Q=(∃ z i c,x=.str z∧y=.int i∧z.length≤sizeLine∧atI z.cps.toList i=some c∧Q (.str ⟨#[c]⟩) H):=rfl
theorem J5F {o:V} {i:V} {v:V} {H:Hp} {Q:(Hp→Prop)}:J4m  o i v H Q=(∃ p xs k j,o=.ref p∧i=.int k∧H p=some (.lst xs)∧ixN xs.length k=some j∧Q (upd H p (.lst (xs.set j v)))):=rfl
theorem J6T {K:W.Frag} {neg:Bool} {x:V} {y:V} {H:Hp} {Q:VK}:rIn K neg x y H Q=(∃ p xs,y=.ref p∧(SqL K H p xs∨SqT K H p xs)∧J0j x=true∧xs.all J0j=true∧Q (.bl (if neg then !inV x xs else inV x xs)) H):=rfl
theorem J6K {K:W.Frag} {T:String} {r:V→List V→Hp→VK→Prop} {to:TE} {σ:St} {H:Hp} {Q:VK}:tBM0 K T r to σ H Q=(to σ H fun x H1=>tyV K T x H1∧r x [] H1 Q):=rfl
theorem J6N {K:W.Frag} {T:String} {r:V→List V→Hp→VK→Prop} {to:TE} {t:TA} {σ:St} {H:Hp} {Q:VK}:tBM K T r to t σ H Q=(to σ H fun x H1=>tyV K T x H1∧t σ H1 fun xs H2=>r x xs H2 Q):=rfl
theorem J3m {x:V} {vs:List V} {H:Hp} {Q:VK}:Z8o  x vs H Q=(∃ l xs y,x=.ref l∧vs=[y]∧H l=some (.lst xs)∧xs.length < sizeLine∧Q .non (upd H l (.lst (xs++[y])))):=rfl
theorem J3i {x:V} {vs:List V} {H:Hp} {Q:VK}:Z8x  x vs H Q=(∃ l b xs zs,x=.ref l∧vs=[.ref b]∧H l=some (.lst xs)∧H b=some (.lst zs)∧xs.length+zs.length≤sizeLine∧Q .non (upd H l (.lst (xs++zs)))):=rfl
theorem J6f {x:V} {vs:List V} {H:Hp} {Q:VK}:rPop  x vs H Q=(∃ l xs y,x=.ref l∧vs=[]∧H l=some (.lst xs)∧xs[xs.length - 1]?=some y∧Q y (upd H l (.lst xs.dropLast))):=rfl
theorem J3t {x:V} {vs:List V} {H:Hp} {Q:VK}:J3C  x vs H Q=(∃ l xs i k y,x=.ref l∧vs=[.int i]∧H l=some (.lst xs)∧-(2 ^ 63)≤i∧i < 2 ^ 63∧seqIndex? i xs.length=some k∧xs[k]?=some y∧Q y (upd H l (.lst (xs.eraseIdx k)))):=rfl
theorem J2l {x:V} {vs:List V} {H:Hp} {Q:VK}:J0X  x vs H Q=(∃ l xs,x=.ref l∧vs=[]∧H l=some (.lst xs)∧Q .non (upd H l (.lst xs.reverse))):=rfl
theorem J4D {x:V} {vs:List V} {H:Hp} {Q:VK}:J3O  x vs H Q=(∃ l xs,x=.ref l∧vs=[]∧H l=some (.lst xs)∧Q .non (upd H l (.lst []))):=rfl
theorem J5Z {x:V} {y:V} {H:Hp} {Q:VK}:rRep  x y H Q=(∃ l k xs,x=.ref l∧y=.int k∧H l=some (.lst xs)∧-(2 ^ 63)≤k∧k < 2 ^ 63∧xs.length * k.toNat≤sizeLine ∧
 ∀ p,H p=none→Q (.ref p) (upd H p (.lst (List.replicate k.toNat xs).flatten))):=rfl
def J2u (J:It) (g:TG) (tb:TS) (D:Ends) (σ:St) (H:Hp):Prop:=∃ W:Nat→Nat→St→Hp→Prop,(∃ m,W 0 m σ H)∧∀ i m σ H,W i m σ H →
 (J.stop i H∧D.nx σ H)∨(J.go i H∧∃ N:St→Hp→Prop,(∀ σ' H',N σ' H'→∃ m',m' < m∧W (i+1) m' σ' H')∧∀ x H',J.yld i H x H'→g x σ H' fun σ2 H2=>tb { D with nx:=N,ct:=N,bk:=D.nx } σ2 H2)
theorem J6i {wi:TI} {g:TG} {tb:TS} {D:Ends} {σ:St} {H:Hp}:tFor wi g tb D σ H=wi σ H fun J H1=>J2u J g tb D σ H1:=rfl
end L2
end
section
namespace L2
open PySem PySem.Spec PyProof.Rows PySem.SeqAt
mutual
inductive RdD (K:W.Frag) (H:Hp):V→PyData→Prop
 | non:RdD K H .non .none
 | bl (b:Bool):RdD K H (.bl b) (.bool b)
 | int (i:Int):RdD K H (.int i) (.int i)
 | str (x:Str):RdD K H (.str x) (.str x)
 | lst {a:Addr} {xs:List V} {ds:List PyData}:SqL K H a xs→RdDs K H xs ds→RdD K H (.ref a) (.list ds)
 | tup {a:Addr} {xs:List V} {ds:List PyData}:SqT K H a xs→RdDs K H xs ds→RdD K H (.ref a) (.tuple ds)
inductive RdDs (K:W.Frag) (H:Hp):List V→List PyData→Prop
 | nil:RdDs K H [] []
 | cons {x:V} {xs:List V} {d:PyData} {ds:List PyData}:RdD K H x d→RdDs K H xs ds→RdDs K H (x::xs) (d::ds)
end
section
variable {X:Cx} {pins:List (Addr×Obj)} {σ:St} {H:Hp} {s:Shared}
mutual
theorem RdD.reads (I:Inv X pins σ H s):∀ {x:V} {d:PyData} {v:Value},RdD X.K H x d→RelV x v→∃ as,Reads s.heap v d as
 | _,_,_,.non,r=>by cases (show _=Value.none from r); exact ⟨_,.none⟩
 | _,_,_,.bl b,r=>by cases (show _=Value.bool b from r); exact ⟨_,.bool b⟩
 | _,_,_,.int i,r=>by obtain ⟨t,e⟩:=(show ∃ t,_=Value.int i t from r); subst e; exact ⟨_,.int i t⟩
 | _,_,_,.str x,r=>by obtain ⟨t,e⟩:=(show ∃ t,_=Value.str x t from r); subst e; exact ⟨_,.str x t⟩
 | _,_,_,.lst (a:=a) hq hs,r=>by
  cases (show _=Value.ref a from r)
  obtain ⟨its,rv,pl,_⟩:=I.list hq
  obtain ⟨as,ra⟩:=RdDs.reads I hs rv
  obtain ⟨o,ho,hc,n,hd⟩:=pl.isList
  exact ⟨_,.list ho hc hd (by simpa using ra)⟩
 | _,_,_,.tup (a:=a) hq hs,r=>by
  cases (show _=Value.ref a from r)
  obtain ⟨its,rv,pl,_⟩:=I.tuple hq
  obtain ⟨as,ra⟩:=RdDs.reads I hs rv
  obtain ⟨o,ho,hc,n,hd⟩:=pl
  exact ⟨_,.tuple ho hc hd (by simpa using ra)⟩
theorem RdDs.reads (I:Inv X pins σ H s):∀ {xs:List V} {ds:List PyData} {vs:List Value},RdDs X.K H xs ds→Vals xs vs→∃ as,ReadsAll s.heap vs ds as
 | _,_,_,.nil,.nil=>⟨_,.nil⟩
 | _,_,_,.cons hd ht,.cons r rr=>by
  obtain ⟨as,ra⟩:=RdD.reads I hd r
  obtain ⟨bs,rb⟩:=RdDs.reads I ht rr
  exact ⟨_,.cons ra rb⟩
end
def rEqD (K:W.Frag):R2:=fun x y H Q=>∃ d e,RdD K H x d∧RdD K H y e∧shaped d=true∧shaped e=true∧Q (.bl (PyData.eqv d e)) H
def rNeD (K:W.Frag):R2:=fun x y H Q=>∃ d e,RdD K H x d∧RdD K H y e∧shaped d=true∧shaped e=true∧Q (.bl (!PyData.eqv d e)) H
theorem Z4I (hu:X.A.units+64 < cLine):OpR X (compareOp .Eq) (rEqD X.K):=by
 intro pins s σ H x y v u Q I rx ry h
 obtain ⟨d,e,hd,he,sd,se,q⟩:=h
 obtain ⟨as,ra⟩:=RdD.reads I hd rx
 obtain ⟨bs,rb⟩:=RdD.reads I he ry
 exact eq_dataH ra rb sd se hu ⟨.bl _,H,I,rfl,q⟩
theorem J4a (hu:X.A.units+64 < cLine):OpR X (compareOp .NotEq) (rNeD X.K):=by
 intro pins s σ H x y v u Q I rx ry h
 obtain ⟨d,e,hd,he,sd,se,q⟩:=h
 obtain ⟨as,ra⟩:=RdD.reads I hd rx
 obtain ⟨bs,rb⟩:=RdD.reads I he ry
 exact ne_dataH ra rb sd se hu ⟨.bl _,H,I,rfl,q⟩
end
end L2
end
section
namespace L2
open PySem PySem.Spec PyProof.Rows
def clsV:V→Option Value
 | .ty n=>some (.type n)
 | .ref a=>some (.ref a)
 | _=>none
theorem J1h {c:V} {cv u:Value} (h:clsV c=some cv) (r:RelV c u):u=cv:=by
 cases c with
 | ty n=>cases h; exact r
 | ref a=>cases h; exact r
 | _=>cases h
def rIsi (K:W.Frag):List V→Hp→VK→Prop:=fun xs H Q=>∃ x c cv t b,xs=[x,c]∧clsV c=some cv∧TyOf K H x t∧W.kitOne K t cv=some b∧Q (.bl b) H
section
variable {X:Cx}
theorem J0h:Z4l X (.builtin "isinstance") (rIsi X.K):=by
 intro pins s σ H xs us Q I rs h
 obtain ⟨x,c,cv,t,b,rfl,hc,ty,e,q⟩:=h
 obtain ⟨u,v,rfl,ru,rv⟩:=rs.two
 rw [J1h hc rv]
 exact Z8T I ru ty e fun tk=>⟨.bl b,H,I.tok tk,rfl,q⟩
end
section
variable {K:W.Frag}
theorem Z3W {t:Value}:W.kitOne K t t=some true:=by
 unfold W.kitOne
 rw [if_pos (by simp)]
theorem Z6j:W.kitOne K (.type "int") (.type "bool")=some false:=by with_unfolding_all rfl
end
end L2
end
section
namespace L2
open PySem PySem.Spec PyProof.Rows
structure Fn (K:W.Frag) (mg:Str→Option Value) (x:Str) (st:Stmt):Prop where
 ex:∃ f fd,Fun K x x st f fd∧mg x=some (.ref f)
structure Has (P:Program) (w:World) (K:W.Frag) (mg:Str→Option Value) (base:Heap) (k:Nat) (x:Str) (ps:List Str) (sp:Sp):Prop where
 ex:∃ f fd,FnOk P w K mg base CX0 k f fd ps sp∧Binds K fd ps []∧W.keepIn K (.ref f)=true∧mg x=some (.ref f)
structure Cst (mg:Str→Option Value) (x:Str) (v:V):Prop where
 ex:∃ u,mg x=some u∧RelV v u
section
variable {P:Program} {w:World} {K:W.Frag} {mg:Str→Option Value} {base:Heap}
theorem Z1z {h:Heap} {x:Str} {st:Stmt} {f:Addr} {oc:Value} {od an:Option Addr} {osl:Array (Option Value)} {kV doc pm cdv ct:Value} (X:K.In h) (G:h.Ns mainGlobals mg) (a:W.nsIn K mainGlobals x=some (some (.ref f)))
  (l:K.lookup f=some ⟨oc,od,.func (W.fnOf x x (Z1p st) (Z1b st) (Z0j st) .none kV doc pm an cdv ct),osl⟩) (c:W.codeIn K cdv x=true) (k:W.keepIn K (.ref f)=true):Fn K mg x st:=
 ⟨f,_,J1r l c k,W.mg_of X G a⟩
theorem Z6m {h:Heap} {x:Str} {i:Int} {t:Tok} (X:K.In h) (G:h.Ns mainGlobals mg) (a:W.nsIn K mainGlobals x=some (some (.int i t))):Cst mg x (.int i):=⟨_,W.mg_of X G a,_,rfl⟩
theorem J2F {h:Heap} {x:Str} {a:Addr} (X:K.In h) (G:h.Ns mainGlobals mg) (e:W.nsIn K mainGlobals x=some (some (.ref a))):Cst mg x (.ref a):=⟨_,W.mg_of X G e,rfl⟩
theorem Has.of {x:Str} {st:Stmt} {N ps:List Str} {k:Nat} {sp:Sp} (F:Fn K mg x st) (S:Z0s N ps (Z0j st))
  (hb:∀ (kV doc pm:Value) (an:Option Addr) (cdv ct:Value) (us:List Value),us.length=ps.length→bindArgs (W.fnOf x x (Z1p st) (Z1b st) (Z0j st) .none kV doc pm an cdv ct) ⟨us,[]⟩=pure (ps.zip us))
  (len:∀ vs H Q E,sp vs H Q E→vs.length=ps.length)
  (hbody:∀ (f:Addr) (cdv:Value) (A:Around) (outer:List Env) (s:Shared) (H:Hp) (vs:List V) (Q:VK) (E:XK),Room k (A.deeper (envOfC x (Z0j st) s.heap.objs.size f cdv))→sp vs H Q E →
   ∃ t,PSs (cxOf CX0 P w K mg base N x (Z0j st) f cdv A outer s H E).nox (Z1b st) t∧t { nx:=fun _ H'=>Q .non H',rt:=Q } (Z4i N vs) H):Has P w K mg base (k+1) x ps sp:=by
 obtain ⟨f,fd,F,m⟩:=F.ex
 exact ⟨f,fd,F.ok S len fun cdv=>hbody f cdv,F.binds hb,F.kp,m⟩
theorem J2C {fa:Addr} {k:Nat} {x:Str} {st:Stmt} {sp:Sp} (F:Fn K mg "law" st) (hfa:mg "law"=some (.ref fa))
  (hb:∀ (kV doc pm:Value) (an:Option Addr) (cdv ct u:Value),bindArgs (W.fnOf "law" "law" (Z1p st) (Z1b st) (Z0j st) .none kV doc pm an cdv ct) ⟨[u],[]⟩=pure [(x,u)])
  (ok:∀ (f:Addr) (fd:FuncData) (base:Heap),Fun K "law" "law" st f fd→FnOk P w K mg base CX0 k f fd [x] sp) :
  ∃ fd:FuncData,(∀ (s:Shared) (u:Value),BindsTo s fd ⟨[u],[]⟩ [(x,u)])∧∀ base:Heap,K.In base→base.Ns mainGlobals mg→FnOk P w K mg base CX0 k fa fd [x] sp:=by
 obtain ⟨f,fd,F,m⟩:=F.ex
 cases hfa.symm.trans m
 have F':=F
 obtain ⟨oc,od,kV,doc,pm,an,cdv,ct,osl,rfl,lk,hcd⟩:=F.ex
 exact ⟨_,fun s u=>.of_eq (hb kV doc pm an cdv ct u),fun base _ _=>ok _ _ base F'⟩
end
section
variable {X:Cx} {x:Str} {ps:List Str} {sp:Sp} {k j:Nat} {e:Expr} {es:List Expr} {t:TA} {p pos:Pos} {v:V}
theorem Z0x (h:Has X.prog X.w X.K X.mg X.base k x ps sp) (hr:Room j X.A) (hk:k≤j) (hg:Gl X x) (ha:PA X (e::es) t) (hdb:(x == ("__debug__":Str))=false:=by decide)
  (he:starEach (e::es) X.env=(false,eval e X.env)::starEach es X.env:=by rfl) (hpl:(backTo pos (starEach es X.env)).any (·.1)=false:=by rfl):PE X (.Call (.Name x p) (e::es) [] pos) (J2y sp [] E0 t):=by
 obtain ⟨f,fd,F,b,kp,m⟩:=h.ex
 exact J2Y F (hr.mono hk) hg m kp b .nil Z9j ha hdb he hpl
theorem Z5D (h:Cst X.mg x v) (hg:Gl X x) (hd:(x == ("__debug__":Str))=false:=by decide):PE X (.Name x pos) (tC v):=by
 obtain ⟨u,m,r⟩:=h.ex
 exact J3d hg m r hd
def J6C (i j:Int):Prop:=j≠0∧-(2 ^ 64) < j∧j < 2 ^ 64
theorem J0m:OpR X (binaryOp .FloorDiv) (rI J6C fun i j=>.int (i.fdiv j)):=opI fun i j _ _ _ _ _ hc q=>floordiv_int hc.1 q (.inl (PyProof.noPylong_of_log2 (by
 have h:j.natAbs < 2 ^ 64:=by have:=hc.2; omega
 have:=(Nat.log2_lt (by have:=hc.1; omega)).mpr h
 omega)))
end
theorem Z0i {H:Hp} {p:Addr} (h:H p=none) (o:HO):Same H (upd H p o):=fun b u q=>by rw [Z0h (Z0t q h)]; exact q
end L2
end
section
namespace L2
open PySem PySem.Spec PyProof.Rows
theorem Z8v {K:W.Frag} {a:Addr} {g:TG} {tb:TS} {D:Ends} {σ:St} {H:Hp} (xs:List V) (Pv:Nat→St→Hp→Prop) (h0:Pv 0 σ H) (hl:∀ i σ H,i≤xs.length→Pv i σ H→SqL K H a xs)
  (hs:∀ i x σ H,xs[i]?=some x→Pv i σ H→g x σ H fun σ2 H2=>tb { D with nx:=Pv (i+1),ct:=Pv (i+1),bk:=D.nx } σ2 H2) (hd:∀ σ H,Pv xs.length σ H→D.nx σ H):J2u (Itl K a) g tb D σ H:=
 J0s Pv h0 hl hs hd
theorem Z1n {lo:Int} {n:Nat} {g:TG} {tb:TS} {D:Ends} {σ:St} {H:Hp} (Pv:Nat→St→Hp→Prop) (h0:Pv 0 σ H)
  (hs:∀ i σ H,i < n→Pv i σ H→g (.int (lo+i)) σ H fun σ2 H2=>tb { D with nx:=Pv (i+1),ct:=Pv (i+1),bk:=D.nx } σ2 H2) (hd:∀ σ H,Pv n σ H→D.nx σ H):J2u (Itr lo n) g tb D σ H:=
 Z8y Pv h0 hs hd
theorem SqL.same {K:W.Frag} {H H':Hp} {a:Addr} {xs:List V} (h:SqL K H a xs) (s:Same H H'):SqL K H' a xs:=s.seq h
theorem SqT.same {K:W.Frag} {H H':Hp} {a:Addr} {xs:List V} (h:SqT K H a xs) (e:Same H H'):SqT K H' a xs:=by
 rcases h with (h | ⟨o,h⟩) | h
 ·exact .inl (.inl (e _ _ h))
 ·exact .inl (.inr ⟨o,e _ _ h⟩)
 ·exact .inr h
section
variable {K:W.Frag} {H:Hp} {Q:VK} {i:Int} {b:Bool} {x:Str}
theorem Z4u {v:V} {n:String} {t:Value} {k:Bool} (ht:∀ t',TyOf K H v t'→t'=t) (h0:TyOf K H v t) (hk:W.kitOne K t (.type n)=some k):rIsi K [v,.ty n] H Q=Q (.bl k) H:=by
 refine propext ⟨fun h=>?_,fun h=>⟨_,_,_,_,_,rfl,rfl,h0,hk,h⟩⟩
 obtain ⟨x,c,cv,t',b',e,hc,ty,k',q⟩:=h
 cases e
 cases hc
 rw [ht _ ty,hk] at k'
 cases k'
 exact q
theorem J2K:rIsi K [.int i,.ty "int"] H Q=Q (.bl true) H:=Z4u (fun _ h=>by cases h; rfl) (.int i) Z3W
theorem J1v:rIsi K [.int i,.ty "bool"] H Q=Q (.bl false) H:=Z4u (fun _ h=>by cases h; rfl) (.int i) Z6j
theorem Z5L:W.kitOne K (.type "bool") (.type "int")=some true:=by with_unfolding_all rfl
theorem J3j:rIsi K [.bl b,.ty "int"] H Q=Q (.bl true) H:=Z4u (fun _ h=>by cases h; rfl) (.bl b) Z5L
theorem J2o:rIsi K [.bl b,.ty "bool"] H Q=Q (.bl true) H:=Z4u (fun _ h=>by cases h; rfl) (.bl b) Z3W
theorem J2A:rIsi K [.str x,.ty "str"] H Q=Q (.bl true) H:=Z4u (fun _ h=>by cases h; rfl) (.str x) Z3W
theorem J2b {a:Addr} {xs:List V} (h:H a=some (.tup xs)) (q:Q (.bl true) H):rIsi K [.ref a,.ty "tuple"] H Q:=⟨_,_,_,_,_,rfl,rfl,.tup h,Z3W,q⟩
end
section
theorem ix0 {α:Type} {x:α} {xs:List α}:atI (x::xs) 0=some x:=by simp [atI,ixN]
theorem ix1 {α:Type} {x y:α} {xs:List α}:atI (x::y::xs) 1=some y:=by
 have:((1:Int) < (xs.length:Int)+1+1):=by omega
 simp [atI,ixN,this]
end
theorem J6Z {CX:CXT} {P:Program} {w:World} {K:W.Frag} {mg:Str→Option Value} {base:Heap} {N:List Str} {qual:Str} {scope:Scope} {f:Addr} {cd:Value} {A:Around} {outer:List Env} {s:Shared} {H:Hp} {E:XK}:(cxOf CX P w K mg base N qual scope f cd A outer s H E).K=K:=rfl
theorem Z0O:bootBuiltins "len"=some (.builtin "len"):=by decide +kernel
theorem J4e:bootBuiltins "abs"=some (.builtin "abs"):=by decide +kernel
theorem J3X:bootBuiltins "max"=some (.builtin "max"):=by decide +kernel
theorem J1H:bootBuiltins "min"=some (.builtin "min"):=by decide +kernel
theorem Z4g:bootBuiltins "repr"=some (.builtin "repr"):=by decide +kernel
theorem Z5i:bootBuiltins "isinstance"=some (.builtin "isinstance"):=by decide +kernel
theorem Z3X:bootBuiltins "list"=some (.type "list"):=by decide +kernel
theorem Z2Z:bootBuiltins "tuple"=some (.type "tuple"):=by decide +kernel
section
variable {a c:Int} {b e:Bool} {x y:Str}
theorem J7j:scal (.non) (.non)=true:=rfl
theorem J7n:scal (.non) (.int a)=true:=rfl
theorem J7e:scal (.int a) (.non)=true:=rfl
theorem J7c:scal (.non) (.bl b)=true:=rfl
theorem J7s:scal (.bl b) (.non)=true:=rfl
theorem J7i:scal (.non) (.str x)=true:=rfl
theorem J7m:scal (.str x) (.non)=true:=rfl
theorem J7f:scal (.int a) (.int c)=true:=rfl
theorem J7r:scal (.bl b) (.bl e)=true:=rfl
theorem J7o:scal (.str x) (.str y)=true:=rfl
theorem J7p:scal (.int a) (.str x)=true:=rfl
theorem J7l:scal (.str x) (.int a)=true:=rfl
theorem J7b:scal (.bl b) (.str x)=true:=rfl
theorem J7g:scal (.str x) (.bl b)=true:=rfl
end
end L2
end
section
namespace L2
open PySem PySem.Spec PyProof.Rows
def Cx.block (X:Cx) (N:List Str) (scope:Scope) (cl:List (Str×Addr)) (C:Addr) (fp:List Addr) (s:Shared) (H:Hp):Cx:=
 { X with N:=N,s₀:=s,H₀:=H,env:=compEnvC scope cl C X.env,outer:=X.stack,stack:=X.stack,ex:=fp,fn:=fun _=>false,pn:=[],xe:=fun _ _=>False }
structure BlockOk (X:Cx) (N:List Str) (nl:List (Option Nat)) (scope:Scope) (cl:List (Str×Addr)):Prop where
 kind:scope.kind=.function
 nocell:∀ y∈scope.names,y.2≠.cell
 names:∀ y∈scope.names,y.2=.local→scope.names.lookup y.1=some .local
 clos:closureFor scope X.env=pure cl
 sub:∀ y c,cl.lookup y=some c→X.env.cells.lookup y=some c
 has:∀ y,scope.names.lookup y=some .free→∃ c,cl.lookup y=some c
 len:nl.length=N.length
 seen:∀ (i j:Nat) (y:Str),N[i]?=some y→nl[i]?=some (some j)→X.N[j]?=some y∧scope.names.lookup y=some .free∧(X.env.scope.names.lookup y=some .cell∨X.env.scope.names.lookup y=some .free)
def stOf (nl:List (Option Nat)) (σ:St):St:=nl.map fun o=>match o with
 | none=>none
 | some j=>(σ[j]?).join
theorem Z1J {x:Str} {k:NameKind}:∀ {l:List (Str×NameKind)},l.lookup x=some k→(x,k)∈l
 | [],h=>by simp at h
 | (n,q)::r,h=>by
  rw [List.lookup_cons] at h
  cases e:x == n with
  | true=>
   rw [e] at h
   have:q=k:=by simpa using h
   have e':x=n:=by simpa using e
   rw [this,e']
   exact List.mem_cons_self
  | false=>
   rw [e] at h
   exact List.mem_cons_of_mem _ (Z1J h)
theorem Z2R {env:Env} {x:Str} {k:NameKind}:∀ {l:List (Str×NameKind)},
  (l.map fun (n,k)=>if (k == NameKind.free&&env.scope.kind == .function&&env.kindOf n == some .cell) then (n,NameKind.cell) else (n,k)).lookup x=some k →
   (l.lookup x=some k∨(k=.cell∧l.lookup x=some .free))
 | [],h=>by simp at h
 | (n,q)::r,h=>by
  rw [List.map_cons] at h
  cases e:x == n with
  | true=>
   by_cases hc:(q == NameKind.free&&env.scope.kind == .function&&env.kindOf n == some .cell)=true
   ·simp only [hc,if_true,List.lookup_cons,e] at h
    have hq:q=.free:=by
     rw [Bool.and_eq_true,Bool.and_eq_true] at hc
     simpa using hc.1.1
    refine .inr ⟨(by simpa using h.symm),?_⟩
    rw [List.lookup_cons,e,hq]
   ·change List.lookup x ((if (q == NameKind.free&&env.scope.kind == .function&&env.kindOf n == some .cell)=true then (n,NameKind.cell) else (n,q))::_)=some k at h
    rw [if_neg hc,List.lookup_cons,e] at h
    refine .inl ?_
    rw [List.lookup_cons,e]
    exact h
  | false=>
   have h':(r.map fun (n,k)=>if (k == NameKind.free&&env.scope.kind == .function&&env.kindOf n == some .cell) then (n,NameKind.cell) else (n,k)).lookup x=some k:=by
    by_cases hc:(q == NameKind.free&&env.scope.kind == .function&&env.kindOf n == some .cell)=true
    ·simpa only [hc,if_true,List.lookup_cons,e] using h
    ·simpa only [hc,List.lookup_cons,e,if_false,Bool.false_eq_true] using h
   have ih:=Z2R (env:=env) h'
   rw [List.lookup_cons,e]
   exact ih
theorem Z3K {env:Env} {x:Str}:∀ {l:List (Str×NameKind)},l.lookup x=some .free →
  (l.map fun (n,k)=>if (k == NameKind.free&&env.scope.kind == .function&&env.kindOf n == some .cell) then (n,NameKind.cell) else (n,k)).lookup x=some .cell ∨
  (l.map fun (n,k)=>if (k == NameKind.free&&env.scope.kind == .function&&env.kindOf n == some .cell) then (n,NameKind.cell) else (n,k)).lookup x=some .free
 | [],h=>by simp at h
 | (n,q)::r,h=>by
  rw [List.map_cons]
  cases e:x == n with
  | true=>
   rw [List.lookup_cons,e] at h
   have hq:q=.free:=by simpa using h
   by_cases hc:(q == NameKind.free&&env.scope.kind == .function&&env.kindOf n == some .cell)=true
   ·left; simp only [hc,if_true,List.lookup_cons,e]
   ·right
    change List.lookup x ((if (q == NameKind.free&&env.scope.kind == .function&&env.kindOf n == some .cell)=true then (n,NameKind.cell) else (n,q))::_)=some .free
    rw [if_neg hc,List.lookup_cons,e,hq]
  | false=>
   rw [List.lookup_cons,e] at h
   have ih:=Z3K (env:=env) (l:=r) h
   by_cases hc:(q == NameKind.free&&env.scope.kind == .function&&env.kindOf n == some .cell)=true
   ·simpa only [hc,if_true,List.lookup_cons,e] using ih
   ·simpa only [hc,List.lookup_cons,e,if_false,Bool.false_eq_true] using ih
section
variable {X:Cx} {pins:List (Addr×Obj)} {σ:St} {H:Hp} {s:Shared} {N:List Str} {nl:List (Option Nat)} {scope:Scope} {cl:List (Str×Addr)} {fp:List Addr}
theorem Z9u (I:Inv X pins σ H s) (B:BlockOk X N nl scope cl) (hf:∀ b∈fp,FpOk X pins H b) (hob:∀ b∈fp,b < s.heap.objs.size) {C:Addr} (hC:s.heap.objs.size≤C):(X.block N scope cl C fp s H).Ok:=by
 have stk:∀ b∈frs X.stack,b=X.env.locals∨b∈X.fs:=fun b hb=>List.mem_cons.mp (I.stkSub b hb)
 refine ⟨I.ok.mod,B.kind,I.ok.glob,I.ok.blt,hC,fun x y c h1 h2=>I.ok.inj x y c (B.sub x c h1) (B.sub y c h2),fun x hx=>?_,fun x c h=>(nomatch h),I.ok.hd,I.ok.frames,.inl rfl,fun b hb=>⟨?_,fun x c e=>?_⟩,
  I.bs,Nat.le_trans I.ok.bsz I.sz,fun b o e hb=>?_,fun b hb hm=>?_,I.stack,I.stkFree⟩
 ·have hx':(scope.names.map fun (n,k)=>if (k == NameKind.free&&X.env.scope.kind == .function&&X.env.kindOf n == some .cell) then (n,NameKind.cell) else (n,k)).lookup x=some .cell ∨
    (scope.names.map fun (n,k)=>if (k == NameKind.free&&X.env.scope.kind == .function&&X.env.kindOf n == some .cell) then (n,NameKind.cell) else (n,k)).lookup x=some .free:=hx
  rcases hx' with q | q
  ·rcases Z2R q with z | ⟨_,z⟩
   ·exact absurd rfl (B.nocell _ (Z1J z))
   ·exact B.has x z
  ·rcases Z2R q with z | ⟨z,_⟩
   ·exact B.has x z
   ·cases z
 ·exact Nat.ne_of_lt (Nat.lt_of_lt_of_le (hob b hb) hC)
 ·exact (hf b hb).2.2.2.2.1 x c (B.sub x c e)
 ·rcases (hf b hb).2.2.2.1 with z | z
  ·exact I.ok.noex b o e z
  ·exact absurd (Nat.lt_of_lt_of_le (Heap.lt_size (I.ok.bs b o e).1) z) (Nat.lt_irrefl _)
 ·rcases stk b hm with z | z
  ·exact (hf b hb).2.1 z
  ·exact (hf b hb).2.2.1 z
theorem J1n {i:Nat} {v:V} (h:(stOf nl σ)[i]?=some (some v)):∃ j,nl[i]?=some (some j)∧σ[j]?=some (some v):=by
 unfold stOf at h
 rw [List.getElem?_map] at h
 cases e:nl[i]? with
 | none=>rw [e] at h; cases h
 | some o=>
  rw [e] at h
  cases o with
  | none=>cases h
  | some j=>
   refine ⟨j,rfl,?_⟩
   have h':(σ[j]?).join=some v:=by simpa using h
   cases q:σ[j]? with
   | none=>rw [q] at h'; cases h'
   | some o'=>
    rw [q] at h'
    have:o'=some v:=by simpa using h'
    rw [this]
theorem Z6t (I:Inv X pins σ H s) (B:BlockOk X N nl scope cl) (hf:∀ b∈fp,FpOk X pins H b) (hob:∀ b∈fp,b < s.heap.objs.size) {C D:Addr} (hD:D=s.heap.objs.size) (hC:C=s.heap.objs.size+1) {h1:Heap} {tk:Nat} {m:Str→Option Value} {n:Nat}
  (hk:∀ b o,s.heap.get? b=some o→h1.get? b=some o) (hl:h1.get? D=some { cls:=.type "list",data:=.seq ([]:List Value).toArray n }) (hn:h1.Ns C m) :
  Inv (X.block N scope cl C fp s H) [] (stOf nl σ) (upd H D (.lst [])) { s with heap:=h1,toks:=tk }:=by
 have hDn:H D=none:=I.hok.fresh (by rw [hD]; exact Nat.le_refl _)
 have hCD:C≠D:=by rw [hC,hD]; exact Nat.succ_ne_self _
 have hCn:H C=none:=I.hok.fresh (by rw [hC]; exact Nat.le_succ _)
 have cellD:∀ y c,cl.lookup y=some c→c≠D:=fun y c e z=>by
  obtain ⟨v,q⟩:=I.cell y c (B.sub y c e)
  exact absurd q.lt (by rw [z,hD]; exact Nat.lt_irrefl _)
 refine ⟨Z9u I B hf hob (by rw [hC]; exact Nat.le_succ _),rfl,I.bare,Un.laid hk (by rw [hD]; exact Nat.le_refl _) hDn,⟨m,hn,fun i y v e1 e2 _=>?_⟩,fun y c e=>?_,?_,fun y c e=>?_,fun p hp=>absurd hp (by simp [Cx.block]),?_,?_⟩
 ·obtain ⟨j,hj,hv⟩:=J1n e2
  obtain ⟨x1,x2,x3⟩:=B.seen i j y e1 hj
  obtain ⟨m0,hm0,hl0⟩:=I.loc
  obtain ⟨u,r,l⟩:=hl0 j y v x1 hv (.inr x3)
  refine ⟨u,r,?_⟩
  rcases l with ⟨hk1,_⟩ | ⟨_,c,hc,z⟩
  ·have hk1':X.env.scope.names.lookup y=some .local:=hk1
   rcases x3 with q | q <;> (rw [hk1'] at q; cases q)
  ·refine .inr ⟨Z3K x2,c,?_,z.keeps hk⟩
   obtain ⟨c',hc'⟩:=B.has y x2
   have q:=B.sub y c' hc'
   rw [hc] at q
   cases q
   exact hc'
 ·obtain ⟨v,q⟩:=I.cell y c (B.sub y c e)
  exact ⟨v,q.keeps hk⟩
 ·show (upd H D (.lst [])) C=none
  rw [Z0h hCD]
  exact hCn
 ·rw [Z0h (cellD y c e)]
  exact I.freeC y c (B.sub y c e)
 ·exact I.hok.laid hk (by rw [hD]; exact Nat.le_refl _) ⟨Nat.zero_le _,[],n,.nil,hl⟩
 ·show (stOf nl σ).length=N.length
  unfold stOf
  rw [List.length_map,B.len]
theorem Z5w {C:Addr} {σ':St} {H':Hp} {s':Shared} {h2:Heap} (I:Inv X pins σ H s) (hf:∀ b∈fp,FpOk X pins H b) (hC:s.heap.objs.size≤C) (J:Inv (X.block N scope cl C fp s H) [] σ' H' s') (hk:∀ b o,b≠C→s'.heap.get? b=some o→h2.get? b=some o) :
  Inv X pins σ H' { s' with heap:=h2 }:=by
 obtain ⟨hp,g,d,t,os⟩:=s'
 have ho:os=s.os:=J.os
 subst ho
 have hCn:H' C=none:=J.free
 have u:=J.base
 have ne:∀ b o,s.heap.get? b=some o→b≠C:=fun b o e=>Nat.ne_of_lt (Nat.lt_of_lt_of_le (Heap.lt_size e) hC)
 have u2:Un (frs X.stack) fp H H' s.heap h2:=
  ⟨fun b o e n hb hx=>hk b o (ne b o e) (u.keep b o e n hb hx),fun b o e n hb hx=>(let ⟨sl,q⟩:=u.slot b o e n hb hx; ⟨sl,hk b _ (ne b o e) q⟩),u.free,fun b o e hx=>(let ⟨o',q⟩:=u.there b o e hx; ⟨o',hk b o' (ne b o e) q⟩),u.tups,u.frzs,u.tbls⟩
 have hok2:HOk X.prog X.w H' h2:=fun b o e=>(J.hok b o e).stay (fun c v hc q=>hk c v (fun z=>by
  subst z
  rcases hc with z | z
  ·rw [← z,hCn] at e; cases e
  ·rw [hCn] at z; cases z) q) (fun _ q=>q) fun _ _ q=>q
 have z:=I.call (h':=h2) (g':=g) (d':=d) (t':=t) (ch:=fp) u2 hok2 J.bare fun b hb=>(let ⟨_,f1,_,f3,f4,f5⟩:=hf b hb; ⟨f3,f1,f4,f5⟩)
 exact z
end
def PQ (X:Cx) (tst:Env→Sem Bool) (t:TT):Prop:=
 ∀ (pins:List (Addr×Obj)) (s:Shared) (σ:St) (H:Hp) (Q:Bool→Hp→Prop),Inv X pins σ H s→t σ H Q→wpAny (model X.prog X.w) X.A (tst X.env) (TP X pins σ Q) X.xe s
def Z3S:TT:=fun _ H Q=>Q true H
theorem Z8t {X:Cx}:PQ X (fun _=>pure true) Z3S:=fun _ _ _ H _ I h=>wpAny_pure ⟨H,I,h⟩
theorem J1y {X:Cx} {c:Expr} {t:TT} (h:PT X c t):PQ X (fun env=>isTrue c env (eval c env)) t:=h
def Z3P (J:It) (g:TG) (tc:TT) (te:TE) (D:Addr) (Q:VK) (σ0:St) (H0:Hp):Prop:=∃ W:Nat→Nat→St→Hp→Prop,(∃ m,W 0 m σ0 H0)∧∀ i m σ' H',W i m σ' H' →
 (J.stop i H'∧Q (.ref D) H')∨(J.go i H'∧∃ N:St→Hp→Prop,(∀ σ2 H2,N σ2 H2→∃ m',m' < m∧W (i+1) m' σ2 H2)∧∀ x H2,J.yld i H' x H2→g x σ' H2 fun σ3 H3=>tc σ3 H3 fun b H4=>
  if b=true then te σ3 H4 fun v H5=>∃ xs,H5 D=some (.lst xs)∧xs.length < sizeLine∧N σ3 (upd H5 D (.lst (xs++[v]))) else N σ3 H4)
def Z7J (wi:TI) (nl:List (Option Nat)) (g:TG) (tc:TT) (te:TE):TE:=fun σ H Q=>wi σ H fun J H1=>∀ D,H1 D=none→Z3P J g tc te D Q (stOf nl σ) (upd H1 D (.lst []))
theorem Z3q {X:Cx} {N:List Str} {nl:List (Option Nat)} {scope:Scope} {cl:List (Str×Addr)} {elt tg iter:Expr} {ifs:List Expr} {pos:Pos} {wi:TI} {g:TG} {tst:Env→Sem Bool} {tc:TT} {te:TE} (hcalm:X.calm=true)
  (B:BlockOk X N nl scope cl) (hi:PI X tg iter wi) (hg:∀ C fp s H,PG (X.block N scope cl C fp s H) tg g) (ht:∀ C fp s H,PQ (X.block N scope cl C fp s H) tst tc) (he:∀ C fp s H,PE (X.block N scope cl C fp s H) elt te)
  (hturn:∀ (it acc:Value) (env:Env),compTurn (.ListComp elt [⟨tg,iter,ifs,0⟩] scope pos) 0 it acc env=(do
   standAt iter.pos
   match ← pyNext it with
   | none=>pure (.done .next)
   | some v=>
    letOwnedTupleGo tg it v
    assign tg env v
    let ok ← tst env
    if ok then (do
     (do let x ← eval elt env; let _ ← call (.builtin "list.append") [acc,x]; pure ())
     again (.compLoop (.ListComp elt [⟨tg,iter,ifs,0⟩] scope pos) 0 it acc env))
    else again (.compLoop (.ListComp elt [⟨tg,iter,ifs,0⟩] scope pos) 0 it acc env)))
  (hs:∀ x,foldedSetIterable iter X.env x=pure x) {pins:List (Addr×Obj)} {s:Shared} {σ:St} {H:Hp} {Q:VK} (I:Inv X pins σ H s) (h:Z7J wi nl g tc te σ H Q) {use:Option (Value→Sem Unit)} {Q':Value→Shared→Prop}
  (hpost:∀ (D C:Addr) (s' s2:Shared) (fp:List Addr) (σ':St) (H' H2:Hp),Inv X pins σ H2 s2→(∀ b∈fp,FpOk X pins H2 b)→s2.heap.objs.size≤C→Inv (X.block N scope cl C fp s2 H2) [] σ' H' s'→Q (.ref D) H' →
   compPost (model X.prog X.w) X.A X.xe use Q' (.ref D) C (.ok .next) s')
  (hpos:Pos) :
  wpAny (model X.prog X.w) X.A (comprehension (.ListComp elt [⟨tg,iter,ifs,0⟩] scope pos) scope X.env hpos (newList []) false (eval iter X.env) use) Q' X.xe s:=by
 refine wpAny_comprehension_free (use:=use) rfl hs B.clos B.kind B.names ?_
 refine thn (hi pins s σ H _ I h) fun v s1 h1=>thn h1 fun itv s2 h2=>?_
 obtain ⟨it,fp,tn,J,H2,e,I2,T,st2,f2,q⟩:=h2
 subst e
 have hob:∀ b∈fp,b < s2.heap.objs.size:=fun b hb=>(let ⟨o,e,_⟩:=T.obj 0 _ st2 b hb; Heap.lt_size e)
 refine wpAny_newObj_type (wpAny_newFunctionEnv B.nocell (by intro y hy; simp at hy) (fun h1 hns hsb=>?_) B.kind)
 dsimp only at hns hsb ⊢
 generalize hD:s2.heap.objs.size=D at hns hsb ⊢
 have hC:(s2.heap.push { cls:=.type "list",dict:=none,data:=.seq ([]:List Value).toArray }).objs.size=s2.heap.objs.size+1:=by rw [Heap.size_push]
 generalize hC':(s2.heap.push { cls:=.type "list",dict:=none,data:=.seq ([]:List Value).toArray }).objs.size=C at hns hsb hC ⊢
 have hDC:D≠C:=by rw [hC,← hD]; exact (Nat.succ_ne_self _).symm
 have lt_ne:∀ b,b < s2.heap.objs.size→b≠C:=fun b hb=>by rw [hC]; exact Nat.ne_of_lt (Nat.lt_succ_of_lt hb)
 have old:∀ b o,s2.heap.get? b=some o→h1.get? b=some o:=fun b o e=>
  hsb.extBut b o (lt_ne b (Heap.lt_size e)) (Heap.get?_push_of_some _ (Heap.get?_push_of_some _ e))
 have hl:h1.get? D=some { cls:=.type "list",data:=.seq ([]:List Value).toArray 0 }:=by
  refine hsb.extBut D _ hDC (Heap.get?_push_of_some _ ?_)
  rw [← hD]
  exact Heap.get?_push_size _ rfl
 have fresh:H2 D=none:=I2.hok.fresh (by rw [hD]; exact Nat.le_refl _)
 obtain ⟨W,⟨m0,w0⟩,turn⟩:=q D fresh
 have hCle:s2.heap.objs.size≤C:=by rw [hC]; exact Nat.le_succ _
 have stat:∀ {H':Hp},(∀ b∈fp,H' b=none)→∀ b∈fp,FpOk (X.block N scope cl C fp s2 H2) [] H' b:=fun hn b hb=>by
  obtain ⟨_,f1,f2',f3,f4,f5⟩:=f2 b hb
  refine ⟨hn b hb,lt_ne b (hob b hb),fun z=>?_,.inl hb,fun x c e=>f4 x c (B.sub x c e),fun p hp=>absurd hp (by simp [Cx.block])⟩
  rcases List.mem_cons.mp (I2.stkSub b z) with z | z
  ·exact f1 z
  ·exact f2' z
 have main:∀ s4:Shared,(∃ tk,s4={ s2 with heap:=h1,toks:=tk }) →
   codeAny (model X.prog X.w) X.A (.compLoop (.ListComp elt [⟨tg,iter,ifs,0⟩] scope pos) 0 (.ref it) (.ref D) (X.block N scope cl C fp s2 H2).env) (compPost (model X.prog X.w) X.A X.xe use Q' (.ref D) C) s4:=by
  rintro s4 ⟨tk,rfl⟩
  have I3:Inv (X.block N scope cl C fp s2 H2) [] (stOf nl σ) (upd H2 D (.lst [])) { s2 with heap:=h1,toks:=tk }:=Z6t I2 B f2 hob hD.symm hC old hl hns
  refine codeAny_loop rfl (fun n s'=>∃ i σ' H',Inv (X.block N scope cl C fp s2 H2) [] σ' H' s'∧tn i s'.heap∧(∀ b∈fp,H' b=none)∧W i n σ' H') (fun n s5 hI=>?_) m0
   ⟨0,stOf nl σ,_,I3,T.keep 0 _ _ st2 fun b hb o e=>old b o e,fun b hb=>by rw [Z0h (fun z=>absurd (hob b hb) (by rw [z,← hD]; exact Nat.lt_irrefl _))]; exact (f2 b hb).1,w0⟩
  show wpAny _ X.A ((compTurn (.ListComp elt [⟨tg,iter,ifs,0⟩] scope pos) 0 (.ref it) (.ref D) (X.block N scope cl C fp s2 H2).env).onRaise (fun x=>do noteFrame x (X.block N scope cl C fp s2 H2).env; theTreesLotGoes x)) _ _ s5
  refine wpAny_noted ?_
  rw [hturn]
  obtain ⟨i,σ5,H5,I5,st5,fr5,w5⟩:=hI
  have quiet:∀ {α:Type} {t:Sem α} {R:α→Shared→Prop} {E':Value→Shared→Prop} {s':Shared},wpAny (model X.prog X.w) X.A t R (fun _ _=>False) s'→wpAny (model X.prog X.w) X.A t R E' s':=fun hw=>wpAny_mono hw (fun _ _ z=>z) fun _ _ z=>z.elim
  refine wpAny_bind (wpAny_standAt ?_)
  rcases turn i n σ5 H5 w5 with ⟨stop,qn⟩ | ⟨go,Nx,hN,step⟩
  ·refine wpAny_bind (quiet (thn (T.done (X.block N scope cl C fp s2 H2) rfl rfl rfl hcalm i [] s5 σ5 H5 (fun _ _=>False) I5 (stat fr5) st5 stop) fun r s6 ⟨hr,I6⟩=>?_))
   subst hr
   exact quiet (wpAny_pure (hpost D C s6 s2 fp σ5 H5 H2 I2 f2 hCle I6 qn))
  ·refine wpAny_bind (quiet (thn (T.item (X.block N scope cl C fp s2 H2) rfl rfl rfl hcalm i [] s5 σ5 H5 (fun _ _=>False) I5 (stat fr5) st5 go) fun r s6 ⟨u,hr,h6⟩=>?_))
   subst hr
   refine wpAny_bind (quiet (thn h6 fun _ s7 ⟨x,H7,I7,r7,y7,st7,fr7⟩=>?_))
   have I7':=I7.pinned (stat fr7) (T.obj _ _ st7)
   have again':∀ {σ8:St} {H8:Hp} {s8:Shared},Inv (X.block N scope cl C fp s2 H2) ([]++Z5E fp s7.heap) σ8 H8 s8→Nx σ8 H8→∃ m,m < n∧∃ i σ' H',Inv (X.block N scope cl C fp s2 H2) [] σ' H' s8∧tn i s8.heap∧(∀ b∈fp,H' b=none)∧W i m σ' H':=fun {σ8 H8 s8} I8 n8=>by
    obtain ⟨m',hm,w8⟩:=hN σ8 H8 n8
    refine ⟨m',hm,i+1,σ8,H8,I8.unpinned,T.keep _ _ _ st7 fun b hb o e=>(I8.pin (b,o) (List.mem_append_right _ (List.mem_append_right _ (Z3b hb e)))).1,fun b hb=>?_,w8⟩
    obtain ⟨o,e,_⟩:=T.obj _ _ st7 b hb
    exact (I8.pin (b,o) (List.mem_append_right _ (List.mem_append_right _ (Z3b hb e)))).2.1
   refine wpAny_bind (quiet (thn (hg C fp s2 H2 _ s7 σ5 H7 x u _ I7' r7 (step x H7 y7)) fun _ s8 ⟨σ8,H8,I8,q8⟩=>?_))
   refine wpAny_bind (quiet (thn (ht C fp s2 H2 _ s8 σ8 H8 _ I8 q8) fun b s9 ⟨H9,I9,q9⟩=>?_))
   cases b with
   | false=>exact quiet (wpAny_pure ⟨rfl,again' I9 q9⟩)
   | true=>
    refine wpAny_bind (wpAny_bind (quiet (thn (he C fp s2 H2 _ s9 σ8 H9 _ I9 q9) fun vy s10 hz_=>?_)))
    obtain ⟨y,H10,I10,r10,xs,e10,z10,n10⟩:=hz_
    refine wpAny_bind (quiet (thn (Z0z _ s10 σ8 H10 (.ref D) [y] (.ref D) [vy] (fun _ H'=>Nx σ8 H') I10 rfl (.cons r10 .nil) ⟨D,xs,y,rfl,rfl,e10,z10,n10⟩) fun _ s11 ⟨_,H11,I11,_,q11⟩=>?_))
    exact wpAny_pure (wpAny_pure ⟨rfl,again' I11 q11⟩)
 exact codeAny_compStart_list (main _ ⟨_,rfl⟩) (T.self _ 0 _ _ _ (T.keep 0 _ _ st2 fun b hb o e=>old b o e) (main _ ⟨_,rfl⟩))
section
variable {X:Cx} {N:List Str} {nl:List (Option Nat)} {scope:Scope} {cl:List (Str×Addr)} {elt tg iter:Expr} {pos:Pos} {wi:TI} {g:TG} {tc:TT} {te:TE}
theorem Z6W (it acc:Value) (env:Env):compTurn (.ListComp elt [⟨tg,iter,[],0⟩] scope pos) 0 it acc env=(do
   standAt iter.pos
   match ← pyNext it with
   | none=>pure (.done .next)
   | some v=>
    letOwnedTupleGo tg it v
    assign tg env v
    let ok ← (fun _=>pure true:Env→Sem Bool) env
    if ok then (do
     (do let x ← eval elt env; let _ ← call (.builtin "list.append") [acc,x]; pure ())
     again (.compLoop (.ListComp elt [⟨tg,iter,[],0⟩] scope pos) 0 it acc env))
    else again (.compLoop (.ListComp elt [⟨tg,iter,[],0⟩] scope pos) 0 it acc env)):=by rfl
theorem Z7p {c:Expr} (it acc:Value) (env:Env):compTurn (.ListComp elt [⟨tg,iter,[c],0⟩] scope pos) 0 it acc env=(do
   standAt iter.pos
   match ← pyNext it with
   | none=>pure (.done .next)
   | some v=>
    letOwnedTupleGo tg it v
    assign tg env v
    let ok ← (fun env=>isTrue c env (eval c env):Env→Sem Bool) env
    if ok then (do
     (do let x ← eval elt env; let _ ← call (.builtin "list.append") [acc,x]; pure ())
     again (.compLoop (.ListComp elt [⟨tg,iter,[c],0⟩] scope pos) 0 it acc env))
    else again (.compLoop (.ListComp elt [⟨tg,iter,[c],0⟩] scope pos) 0 it acc env)):=by
 unfold compTurn
 simp
 rfl
theorem Z5y {pins:List (Addr×Obj)} {σ:St} {Q:VK} (D C:Addr) (s' s2:Shared) (fp:List Addr) (σ':St) (H' H2:Hp) (I2:Inv X pins σ H2 s2) (f2:∀ b∈fp,FpOk X pins H2 b) (hC:s2.heap.objs.size≤C) (J:Inv (X.block N scope cl C fp s2 H2) [] σ' H' s') (q:Q (.ref D) H') :
  compPost (model X.prog X.w) X.A X.xe none (EP X pins σ Q) (.ref D) C (.ok .next) s':=by
 obtain ⟨m,hn,_⟩:=J.loc
 exact ⟨m,hn,fun h' sb=>⟨.ref D,H',Z5w I2 f2 hC J fun b o hb e=>sb.extBut b o hb e,rfl,q⟩⟩
theorem Z3T (hcalm:X.calm=true) (B:BlockOk X N nl scope cl) (hi:PI X tg iter wi) (hg:∀ C fp s H,PG (X.block N scope cl C fp s H) tg g) (he:∀ C fp s H,PE (X.block N scope cl C fp s H) elt te) (hs:∀ x,foldedSetIterable iter X.env x=pure x:=by intro _; rfl) :
  PE X (.ListComp elt [⟨tg,iter,[],0⟩] scope pos) (Z7J wi nl g Z3S te):=by
 intro pins s σ H Q I h
 rw [eval_ListComp]
 exact Z3q (tst:=fun _=>pure true) hcalm B hi hg (fun _ _ _ _=>Z8t) he Z6W hs I h Z5y _
theorem Z6S {c:Expr} (hcalm:X.calm=true) (B:BlockOk X N nl scope cl) (hi:PI X tg iter wi) (hg:∀ C fp s H,PG (X.block N scope cl C fp s H) tg g) (hc:∀ C fp s H,PT (X.block N scope cl C fp s H) c tc) (he:∀ C fp s H,PE (X.block N scope cl C fp s H) elt te)
  (hs:∀ x,foldedSetIterable iter X.env x=pure x:=by intro _; rfl):PE X (.ListComp elt [⟨tg,iter,[c],0⟩] scope pos) (Z7J wi nl g tc te):=by
 intro pins s σ H Q I h
 rw [eval_ListComp]
 exact Z3q (tst:=fun env=>isTrue c env (eval c env)) hcalm B hi hg (fun C fp s H=>J1y (hc C fp s H)) he Z7p hs I h Z5y _
end
end L2
end
section
namespace L2
open PySem PySem.Spec PyProof.Rows
def Its (x:Str):It:=⟨fun i _=>i < x.cps.size,fun i H v H'=>H'=H∧∃ c,x.cps[i]?=some c∧v=.str ⟨#[c]⟩,fun i _=>i=x.cps.size⟩
section
variable {X:Cx} {tg:Expr}
end
section
variable {X:Cx}
end
end L2
namespace L2
open PySem PySem.Spec PyProof.Rows
end L2
end
section
namespace L2
open PySem PySem.Spec PyProof.Rows
theorem BlockOk.plain {X:Cx} {N:List Str} {scope:Scope} (kind:scope.kind=.function) (nocell:∀ y∈scope.names,y.2≠.cell) (names:∀ y∈scope.names,y.2=.local→scope.names.lookup y.1=some .local) (nofree:∀ y∈scope.names,y.2≠.free) :
  BlockOk X N (N.map fun _=>none) scope [] where
 kind:=kind
 nocell:=nocell
 names:=names
 clos:=closureFor_none nofree
 sub:=fun y c h=>by simp at h
 has:=fun y h=>absurd rfl (nofree _ (Z1J h))
 len:=by simp
 seen:=fun i j y _ h=>by
  rw [List.getElem?_map] at h
  cases q:N[i]? with
  | none=>rw [q] at h; cases h
  | some z=>rw [q] at h; cases h
theorem Z6c {J:It} {g:TG} {tc:TT} {te:TE} {Q:VK} {H:Hp} {D:Addr} {σ0:St} (ys:List V) (p:V→Bool) (f:V→V) (Pσ:St→Prop) (Rσ:V→St→Prop) (h0:Pσ σ0)
  (hgo:∀ i l,i < ys.length→J.go i (upd H D (.lst l))) (hstop:∀ l,J.stop ys.length (upd H D (.lst l)))
  (hy:∀ i l x H',i < ys.length→J.yld i (upd H D (.lst l)) x H'→H'=upd H D (.lst l)∧ys[i]?=some x)
  (hg:∀ x∈ys,∀ σ' H' K,Pσ σ'→(∀ σ3,Pσ σ3→Rσ x σ3→K σ3 H')→g x σ' H' K)
  (hc:∀ x∈ys,∀ σ' l K,Rσ x σ'→K (p x) (upd H D (.lst l))→tc σ' (upd H D (.lst l)) K)
  (he:∀ x∈ys,p x=true→∀ σ' l K,Rσ x σ'→K (f x) (upd H D (.lst l))→te σ' (upd H D (.lst l)) K)
  (hz:ys.length≤sizeLine) (hQ:Q (.ref D) (upd H D (.lst ((ys.filter p).map f)))) :
  Z3P J g tc te D Q σ0 (upd H D (.lst [])):=by
 refine ⟨fun i m σ' H'=>m=ys.length - i∧i≤ys.length∧Pσ σ'∧H'=upd H D (.lst (((ys.take i).filter p).map f)),⟨ys.length,by simp,Nat.zero_le _,h0,by simp⟩,?_⟩
 rintro i m σ' H' ⟨rfl,hi,hP,rfl⟩
 by_cases hlt:i < ys.length
 ·refine .inr ⟨hgo i _ hlt,fun σ2 H2=>Pσ σ2∧H2=upd H D (.lst (((ys.take (i+1)).filter p).map f)),fun σ2 H2 ⟨a,b⟩=>⟨ys.length - (i+1),by omega,rfl,hlt,a,b⟩,fun x H2 hx=>?_⟩
  obtain ⟨eH,hgx⟩:=hy i _ x H2 hlt hx
  subst eH
  have hm:x∈ys:=List.mem_of_getElem? hgx
  have e1:ys.take (i+1)=ys.take i++[x]:=by rw [List.take_add_one,hgx]; rfl
  refine hg x hm σ' _ _ hP fun σ3 hP3 hR=>hc x hm σ3 _ _ hR ?_
  cases hp:p x with
  | true=>
   refine iteT (he x hm hp σ3 _ _ hR ⟨_,Z0e,?_,hP3,?_⟩)
   ·rw [List.length_map]
    have a1:=List.length_filter_le p (ys.take i)
    have a2:(ys.take i).length=i:=by rw [List.length_take]; omega
    omega
   ·rw [Z6p,e1,List.filter_append,List.map_append]
    simp [hp]
  | false=>
   refine iteF ⟨hP3,?_⟩
   rw [e1,List.filter_append,List.map_append]
   simp [hp]
 ·have e:i=ys.length:=by omega
  subst e
  refine .inl ⟨hstop _,?_⟩
  rw [List.take_length]
  exact hQ
end L2
end
section
namespace PySem
open Sem (wp)
open Builtin
theorem Z3Q:fillsNumberSlot (.type "tuple") "mul"=pure false:=
 fillsNumberSlot_seq (id:="tuple.__mul__") (r:=some (.builtin "tuple.__rmul__")) F.slot_tuple_mul.lookup (by decide +kernel) F.slot_tuple_rmul.lookup (by decide +kernel)
theorem Z5V:seqRepeat? (.type "tuple")=pure (some (.builtin "tuple.__mul__")):=by
 unfold seqRepeat?
 rw [seqSlot_of (T:="tuple") (name:="__mul__") (id:="tuple.__mul__") F.slot_tuple_mul.lookup (by decide +kernel),seqSlot_of (T:="tuple") (name:="__rmul__") (id:="tuple.__rmul__") F.slot_tuple_rmul.lookup (by decide +kernel)]
 rfl
theorem Z4C (a:Int) (t:Tok) (l:Addr) (items:Array Value) (n:Nat) (dd:Option Addr) (sl:Array (Option Value)) :
  Meets (Builtin.«int.__rmul__» ⟨[.int a t,.ref l],[]⟩) (fun _ R s=>s.heap.get? l=some { cls:=.type "tuple",dict:=dd,data:=.seq items n,slots:=sl }∧R (.ok (.ret Value.notImplemented)) s):=
 .of_wp fun prog w A R s h=>by obtain ⟨hp,g,d,tk,os⟩:=s; obtain ⟨hl,h⟩:=h; wp_walk; exact ⟨_,rfl,h⟩
end PySem
namespace L2
open PySem PySem.Spec PyProof.Rows PySem.SeqAt
open AutoSeq1 (wpAny_loadPart')
theorem Z7R (l:Addr) (items:Array Value) (n:Nat) (dd:Option Addr) (sl:Array (Option Value)) (u:Tok) :
  Meets (Builtin.«tuple.__mul__» ⟨[.ref l,.int 1 u],[]⟩) (fun _ R s=>s.heap.get? l=some { cls:=.type "tuple",dict:=dd,data:=.seq items n,slots:=sl }∧R (.ok (.ret (Value.ref l))) s):=
 .of_wp fun prog w A R s h=>by obtain ⟨hp,g,d,tk,os⟩:=s; obtain ⟨hl,h⟩:=h; have f1:=AutoSeq1.idx_int; have f2:=AutoSeq1.sub_tuple_tuple; wp_walk using wpAny_loadPart' hl; exact ⟨_,rfl,h⟩
theorem Z8c (l:Addr) (items:Array Value) (n:Nat) (dd:Option Addr) (sl:Array (Option Value)) (x:Int) (u:Tok) (hc0:¬(decide (x < -(2 ^ 63)) || decide (x ≥ 2 ^ 63))=true) (hc1:¬(items.isEmpty || x == 1)=true) (hc2:¬ (decide (x≤0) || items.isEmpty)=true) (hc3:¬ ((items.size:Nat):Int) * x > (2 ^ 63 - 1) / 8) (hc4:¬ Builtin.Tuple.tupleTooMany (((items.size:Nat):Int) * x)=true) :
  Meets (Builtin.«tuple.__mul__» ⟨[.ref l,.int x u],[]⟩) (fun _ R s=>s.heap.get? l=some { cls:=.type "tuple",dict:=dd,data:=.seq items n,slots:=sl }∧R (.ok (.ret (Value.ref s.heap.objs.size))) { s with heap:=s.heap.push { cls:=Value.type "tuple",data:=Data.seq (List.foldl (fun x1 x2=>x1++x2) #[] (List.replicate x.toNat items)) },toks:=s.toks }):=
 .of_wp fun prog w A R s h=>by
  obtain ⟨hp,g,d,tk,os⟩:=s; obtain ⟨hl,h⟩:=h
  have f1:=AutoSeq1.idx_int
  have f2:=AutoSeq1.sub_tuple_tuple
  have hz:(List.foldl (fun x1 x2=>x1++x2) #[] (List.replicate x.toNat items)).size≤sizeLine:=by
   rw [AutoListH.size_joined]
   have h4:¬ ((items.size:Int) * x > (sizeLine:Int)):=fun z=>hc4 (decide_eq_true z)
   have hx:0≤x:=by
    by_cases z:0≤x
    ·exact z
    ·exact absurd (by rw [decide_eq_true (show x≤0 by omega)]; rfl) hc2
   have e:((x.toNat * items.size:Nat):Int)=(items.size:Int) * x:=by
    rw [Int.natCast_mul,Int.toNat_of_nonneg hx,Int.mul_comm]
   have:(#[]:Array Value).size=0:=rfl
   omega
  wp_walk using wpAny_loadPart' hl
  rw [if_neg hc0]
  wp_walk using wpAny_loadPart' hl
  rw [if_neg hc3]
  wp_walk using wpAny_loadPart' hl
  exact ⟨_,rfl,h⟩
theorem Z8b (l:Addr) (items:Array Value) (n:Nat) (dd:Option Addr) (sl:Array (Option Value)) (x:Int) (u:Tok) (hc0:¬(decide (x < -(2 ^ 63)) || decide (x ≥ 2 ^ 63))=true) (hc1:¬(items.isEmpty || x == 1)=true) (hc2:(decide (x≤0) || items.isEmpty)=true) :
  Meets (Builtin.«tuple.__mul__» ⟨[.ref l,.int x u],[]⟩) (fun _ R s=>s.heap.get? l=some { cls:=.type "tuple",dict:=dd,data:=.seq items n,slots:=sl }∧R (.ok (.ret (Value.ref s.heap.objs.size))) { s with heap:=s.heap.push { cls:=Value.type "tuple",data:=Data.seq #[] },toks:=s.toks }):=
 .of_wp fun prog w A R s h=>by
  obtain ⟨hp,g,d,tk,os⟩:=s; obtain ⟨hl,h⟩:=h
  have f1:=AutoSeq1.idx_int
  have f2:=AutoSeq1.sub_tuple_tuple
  wp_walk using wpAny_loadPart' hl
  rw [if_neg hc0]
  wp_walk using wpAny_loadPart' hl
  exact ⟨_,rfl,h⟩
section
variable {X:Cx}
def Z5A (K:W.Frag):R2:=fun x y H Q=>∃ a b xs ys,x=.ref a∧y=.ref b∧SqT K H a xs∧SqT K H b ys∧xs.length+ys.length≤sizeLine∧∀ p H',Same H H'→SqT K H' p (xs++ys)→Q (.ref p) H'
theorem J0C {prog:Program} {w:World} {A:Around} {E:Value→Shared→Prop} {s:Shared} {t b:Addr} {ws:List Value} {Q:Value→Shared→Prop} (ht:IsTup s.heap t #[]) (hb:IsTup s.heap b ws.toArray) (h:Q (.ref b) s):wpAny (model prog w) A (binaryOp .Add (.ref t) (.ref b)) Q E s:=by
 obtain ⟨⟨cls,dd,data,sl⟩,ho,hc,n,hd⟩:=id ht
 obtain ⟨⟨cls2,dd2,data2,sl2⟩,ho2,hc2,n2,hd2⟩:=id hb
 simp only at hc hd hc2 hd2
 subst hc hd hc2 hd2
 exact concat_meets ⟨_,ho,rfl⟩ ⟨_,ho2,rfl⟩ noFill_tuple_add seq_tuple_add PySem.F.slot_tuple_add PySem.F.entry_tuple_add (PySem.F.args_tuple_add_2 _ _)
  (tuple_addW0 t b #[] ws.toArray n n2 dd dd2 sl sl2 (by simp)) ⟨ho,ho2,h⟩
theorem Z3o:OpR X (binaryOp .Add) (Z5A X.K):=by
 intro pins s σ H x y v u Q I rx ry h
 obtain ⟨a,b,xs,ys,rfl,rfl,hx,hy,hz,q⟩:=h
 by_cases he:xs=[]
 ·subst he
  obtain rfl:v=Value.ref a:=rx
  obtain rfl:u=Value.ref b:=ry
  obtain ⟨its,r,ht,_⟩:=I.tuple hx
  obtain ⟨its2,r2,ht2,_⟩:=I.tuple hy
  cases r
  exact J0C ht ht2 ⟨.ref b,H,I,rfl,q b H (Same.refl H) (by simpa using hy)⟩
 ·refine J2V pins s σ H _ _ v u Q I rx ry ⟨a,b,xs,ys,rfl,rfl,hx,hy,he,hz,fun e=>?_,fun e p hp=>?_⟩
  ·subst e
   exact q a H (Same.refl H) (by simpa using hx)
  ·exact q p _ (fun c o hc=>by rw [Z0h (Z0t hc hp)]; exact hc) (SqT.of Z0e)
def J3B (K:W.Frag):R2:=fun x y H Q=>∃ a k xs,x=.ref a∧y=.int k∧SqT K H a xs∧xs≠[]∧-(2 ^ 63)≤k∧k < 2 ^ 63∧xs.length * k.toNat≤sizeLine∧∀ p H',Same H H'→SqT K H' p (List.replicate k.toNat xs).flatten→Q (.ref p) H'
theorem J2Q:OpR X (binaryOp .Mult) (J3B X.K):=by
 intro pins s σ H x y v u Q I rx ry h
 obtain ⟨a,k,xs,rfl,rfl,hx,hne,h1,h2,hz,q⟩:=h
 obtain rfl:v=Value.ref a:=rx
 obtain ⟨t,rfl⟩:=ry
 obtain ⟨its,r,ht,_⟩:=I.tuple hx
 have hl:xs.length=its.length:=r.length
 have hi:its≠[]:=fun z=>hne (by cases xs with | nil=>rfl | cons _ _=>rw [z] at hl; cases hl)
 have hie:its.toArray.isEmpty=false:=by cases its with | nil=>exact absurd rfl hi | cons _ _=>rfl
 obtain ⟨⟨cls,dd,data,sl⟩,ho,hc,n,hd⟩:=id ht
 simp only at hc hd
 subst hc hd
 have hc0:¬(decide (k < -(2 ^ 63)) || decide (k ≥ 2 ^ 63))=true:=by
  rw [Bool.or_eq_true,decide_eq_true_eq,decide_eq_true_eq]; omega
 refine wpAny_binaryOp_repeat_ref (T:="tuple") (U:="int") (by decide) ⟨_,ho,rfl⟩ (fun s'=>typeIs_int s' k t) Z3Q F.fills_int_mul F.slot_int_rmul Z5V F.slot_int_index.lookup
  (call_meets F.slot_int_rmul (typeIs_int s k t) F.entry_int_rmul (F.args_int_rmul_2 _ _) (Z4C k t a its.toArray n dd sl) ⟨ho,rfl,⟨_,ho,rfl⟩,?_⟩)
 by_cases e1:k=1
 ·subst e1
  refine call_meets F.slot_tuple_mul ⟨_,ho,rfl⟩ F.entry_tuple_mul (F.args_tuple_mul_2 _ _) (Z7R a its.toArray n dd sl t) ⟨ho,?_⟩
  exact ⟨.ref a,H,I,rfl,q a H (Same.refl H) (by simpa using hx)⟩
 have hc1:¬(its.toArray.isEmpty || k == 1)=true:=by
  rw [hie,Bool.false_or,beq_iff_eq]; exact e1
 by_cases e0:k≤0
 ·refine call_meets F.slot_tuple_mul ⟨_,ho,rfl⟩ F.entry_tuple_mul (F.args_tuple_mul_2 _ _) (Z8b a its.toArray n dd sl k t hc0 hc1 (by rw [decide_eq_true e0]; rfl)) ⟨ho,?_⟩
  have ez:k.toNat=0:=by omega
  refine ⟨.ref s.heap.objs.size,_,I.laid (t':=s.toks) (o:=.tup []) (fun b ob q=>Heap.get?_push_of_some _ q) (Nat.le_refl _) ⟨⟨Nat.zero_le _,Z4M⟩,[],.nil,IsTup.new _ _⟩,rfl,q _ _ (fun c o hc=>by rw [Z0h (Z0t hc (I.hok.fresh (Nat.le_refl _)))]; exact hc) ?_⟩
  rw [ez]
  exact SqT.of Z0e
 ·have hkn:(k.toNat:Int)=k:=Int.toNat_of_nonneg (by omega)
  have em:((its.toArray.size:Nat):Int) * k=((xs.length * k.toNat:Nat):Int):=by rw [List.size_toArray,← hl,Int.natCast_mul,hkn]
  have hsl:=sizeLine_eq
  refine call_meets F.slot_tuple_mul ⟨_,ho,rfl⟩ F.entry_tuple_mul (F.args_tuple_mul_2 _ _) (Z8c a its.toArray n dd sl k t hc0 hc1 (by rw [decide_eq_false e0,hie]; decide) (by rw [em]; rw [hsl] at hz; omega) (fun z=>by have z':=of_decide_eq_true z; rw [em] at z'; omega)) ⟨ho,?_⟩
  have f0:List.foldl (fun x1 x2=>x1++x2) #[] (List.replicate k.toNat its.toArray)=(List.replicate k.toNat its).flatten.toArray:=by
   have:=Z4c its k.toNat []
   rw [List.nil_append] at this
   exact this
  rw [f0]
  refine ⟨.ref s.heap.objs.size,_,I.laid (t':=s.toks) (o:=.tup (List.replicate k.toNat xs).flatten) (fun b ob q=>Heap.get?_push_of_some _ q) (Nat.le_refl _) ⟨⟨by rw [Z9s,Nat.mul_comm]; exact hz,Z4M⟩,_,r.rep k.toNat,IsTup.new _ _⟩,rfl,q _ _ (fun c o hc=>by rw [Z0h (Z0t hc (I.hok.fresh (Nat.le_refl _)))]; exact hc) (SqT.of Z0e)⟩
end
open HT
section
variable {prog:Program} {w:World} {A:Around} {E:Value→Shared→Prop} {s:Shared}
theorem Z3m {t sl:Addr} {items:Array Value} {vl vu:Value} {lo hi:Option Int} {Q:Value→Shared→Prop} (ht:IsTup s.heap t items) (hs:s.heap.IsSliceOf sl vl vu .none) (pl:IsPart vl lo) (pu:IsPart vu hi)
  (hw:sIx items.size 0 lo=0∧sIx items.size items.size hi=items.size) (h:Q (.ref t) s):wpAny (model prog w) A (getItem (.ref t) (.ref sl)) Q E s:=by
 obtain ⟨os,hos,hcs,hds⟩:=id hs
 have hTs:s.TypeIs (.ref sl) "slice":=⟨os,hos,hcs⟩
 unfold getItem
 try with_reducible refine wpAny_holding ?_
 first | refine wpAny_bind (wpAny_pure ?_) | skip
 refine wpAny_bind (wpAny_sequenceKey ht.typeIs (by decide) ?_)
 refine wpAny_bind (wpAny_callSpecial?_slot (name:=Str.ofString "__getitem__") ht.typeIs PyProof.Rows.slot_tuple_getitem
  (wpAny_call_entry PyProof.Rows.slot_tuple_getitem ht.typeIs entry_tuple_getitem ?_ (args_tuple_getitem _ _)))
 show wpAny _ _ (Builtin.Tuple.tupleItemsOf (.ref t) >>= _) _ _ s
 refine wpAny_bind (tupleItemsOf_ ht ?_)
 refine wpAny_bind (wpAny_typeOf hTs ?_)
 rw [if_pos (by decide)]
 refine wpAny_bind (Z2J hs pl pu ?_)
 have hyes:(((sIx items.size 0 lo:Nat):Int) == 0&&(1:Int) == 1&&(sIx items.size items.size hi - sIx items.size 0 lo) == items.size)=true:=by
  rw [hw.1,hw.2]; simp
 show wpAny _ _ (if (((sIx items.size 0 lo:Nat):Int) == 0&&(1:Int) == 1&&(sIx items.size items.size hi - sIx items.size 0 lo) == items.size)=true then _ else _) _ _ s
 rw [if_pos hyes]
 refine wpAny_bind ?_
 show wpAny _ _ ((typeOf (.ref t)) >>= _) _ _ s
 refine wpAny_bind (wpAny_typeOf ht.typeIs (wpAny_pure ?_))
 rw [if_pos (by decide)]
 first
  | exact wpAny_bind (wpAny_rule (wpAny_pure ⟨_,rfl,wpAny_pure h⟩))
  | exact wpAny_bind (wpAny_pure (wpAny_pure ⟨_,rfl,wpAny_pure h⟩))
  | exact wpAny_pure ⟨_,rfl,wpAny_pure h⟩
end
section
variable {X:Cx}
def rSlA (K:W.Frag):V→Option Int→Option Int→Hp→VK→Prop:=fun x lo hi H Q=>∃ a xs,x=.ref a∧SqT K H a xs∧∀ p H',Same H H'→SqT K H' p (cutV xs lo hi)→Q (.ref p) H'
theorem Z2y:SlR X (rSlA X.K):=by
 intro pins s σ H x v vl vu lo hi sl Q I rx hs pl pu h
 obtain ⟨a,xs,rfl,hx,q⟩:=h
 by_cases hw:HT.sIx xs.length 0 lo=0∧HT.sIx xs.length xs.length hi=xs.length
 ·obtain rfl:v=Value.ref a:=rx
  obtain ⟨its,r,ht,hz⟩:=I.tuple hx
  have hlen:its.toArray.size=xs.length:=by rw [List.size_toArray]; exact r.length.symm
  refine ⟨"tuple",_,PyProof.Rows.slot_tuple_getitem.lookup,ht.typeIs,?_⟩
  refine Z3m ht hs pl pu (by rw [hlen]; exact hw) ⟨.ref a,H,I,rfl,q a H (Same.refl H) ?_⟩
  have e:cutV xs lo hi=xs:=by
   unfold cutV
   rw [hw.1,hw.2,List.drop_zero,Nat.sub_zero,List.take_length]
  rw [e]
  exact hx
 ·exact J3y pins s σ H _ v vl vu lo hi sl Q I rx hs pl pu ⟨a,xs,rfl,hx,hw,fun p hp=>q p _ (fun c o hc=>by rw [Z0h (Z0t hc hp)]; exact hc) (SqT.of Z0e)⟩
end
end L2
end
section
namespace L2
open PySem PySem.Spec PyProof.Rows PySem.SeqAt
theorem J0e {K:W.Frag} {H H':Hp} {a:Addr} {xs:List V} (h:SqT K H a xs) (e:Same H H'):SqT K H' a xs:=by
 rcases h with (h | ⟨o,h⟩) | h
 ·exact .inl (.inl (e _ _ h))
 ·exact .inl (.inr ⟨o,e _ _ h⟩)
 ·exact .inr h
mutual
theorem RdD.same {K:W.Frag} {H H':Hp} (e:Same H H'):∀ {v:V} {d:PyData},RdD K H v d→RdD K H' v d
 | _,_,.non=>.non
 | _,_,.bl b=>.bl b
 | _,_,.int i=>.int i
 | _,_,.str x=>.str x
 | _,_,.lst hq hs=>.lst (e.seq hq) (RdDs.same e hs)
 | _,_,.tup hq hs=>.tup (J0e hq e) (RdDs.same e hs)
theorem RdDs.same {K:W.Frag} {H H':Hp} (e:Same H H'):∀ {v:List V} {d:List PyData},RdDs K H v d→RdDs K H' v d
 | _,_,.nil=>.nil
 | _,_,.cons h hs=>.cons (RdD.same e h) (RdDs.same e hs)
end
end L2
end
section
namespace L2
open PySem PySem.Spec PyProof.Rows PySem.SeqAt
def Z4k (K:W.Frag):List V→Hp→VK→Prop:=fun xs H Q=>∃ a d,xs=[.ref a]∧RdD K H (.ref a) d∧d.showable=true∧d.hasDict=false∧d.depth≤60∧d.shown.length≤sizeLine∧Q (.str d.shown) H
theorem Z2C {X:Cx} (hg:X.A.guards=some []) (hu:X.A.units+64 < cLine):Z4l X (.builtin "repr") (Z4k X.K):=by
 intro pins s σ H xs us Q I rs h
 obtain ⟨a,d,rfl,hr,hs,hd,hz,hl,q⟩:=h
 obtain ⟨u,rfl,ru⟩:=rs.one
 obtain rfl:u=Value.ref a:=ru
 obtain ⟨as,ra⟩:=RdD.reads I hr rfl
 exact repr_of_reads' ra hs (fun z=>by rw [hd] at z; cases z) hg (by omega) (fun _ _ e=>e) (fun h' u tk k=>⟨.str d.shown,H,I.kept k,⟨_,rfl⟩,q⟩) hl
end L2
end
section
namespace L2
open PySem PySem.Spec PyProof.Rows
theorem BlockOk.of {X:Cx} {N:List Str} {nl:List (Option Nat)} {scope:Scope} {cl:List (Str×Addr)} (kind:scope.kind=.function) (nocell:∀ y∈scope.names,y.2≠.cell) (names:∀ y∈scope.names,y.2=.local→scope.names.lookup y.1=some .local)
  (clos:closureFor scope X.env=pure cl) (sub:∀ p∈cl,X.env.cells.lookup p.1=some p.2) {nm:List Str} (hnm:cl.map (·.1)=nm) (has:∀ y∈scope.names,y.2=.free→y.1∈nm) (len:nl.length=N.length)
  (seen:∀ i < nl.length,∀ j,nl[i]?=some (some j)→∃ y,N[i]?=some y∧X.N[j]?=some y∧scope.names.lookup y=some .free∧(X.env.scope.names.lookup y=some .cell∨X.env.scope.names.lookup y=some .free)):BlockOk X N nl scope cl where
 kind:=kind
 nocell:=nocell
 names:=names
 clos:=clos
 sub:=fun y c h=>sub (y,c) (PySem.mem_of_lookup h)
 has:=fun y h=>by
  have hm:=has _ (Z1J h) rfl
  rw [← hnm] at hm
  cases q:cl.lookup y with
  | some c=>exact ⟨c,rfl⟩
  | none=>
   obtain ⟨p,hp,e⟩:=List.mem_map.mp hm
   have:=List.lookup_eq_none_iff.mp q p hp
   simp [e] at this
 len:=len
 seen:=fun i j y h1 h2=>by
  obtain ⟨z,a,b,c,d⟩:=seen i (List.getElem?_eq_some_iff.mp h2).1 j h2
  rw [h1] at a
  cases a
  exact ⟨b,c,d⟩
theorem sub1 {env:Env} {x:Str} {a:Addr} (h:env.cells.lookup x=some a):∀ p∈[(x,a)],env.cells.lookup p.1=some p.2:=fun p hp=>by
 rcases List.mem_cons.mp hp with e | hp
 ·subst e; exact h
 ·cases hp
theorem sub2 {env:Env} {x y:Str} {a b:Addr} (h:env.cells.lookup x=some a) (h':env.cells.lookup y=some b):∀ p∈[(x,a),(y,b)],env.cells.lookup p.1=some p.2:=fun p hp=>by
 rcases List.mem_cons.mp hp with e | hp
 ·subst e; exact h
 ·exact sub1 h' p hp
theorem Z7D {te:TE} {Q:VK} {H:Hp} {D:Addr} {n:Nat} {σ0:St} (v0:Option V) (rest:St) (f:Nat→V) (e0:σ0=v0::rest)
  (he:∀ i,i < n→∀ l K,K (f i) (upd H D (.lst l))→te (some (.int i)::rest) (upd H D (.lst l)) K)
  (hz:n≤sizeLine) (hQ:Q (.ref D) (upd H D (.lst ((List.range n).map f)))):Z3P (Itr 0 n) (Z3A 0) Z3S te D Q σ0 (upd H D (.lst [])):=by
 have cod:∀ i:Nat,(match (V.int (i:Int):V) with | .int x=>x.toNat | _=>0)=i:=fun i=>by simp
 refine Z6c ((List.range n).map fun i:Nat=>V.int i) (fun _=>true) (fun v=>f (match v with | .int x=>x.toNat | _=>0)) (fun σ'=>∃ v,σ'=v::rest) (fun x σ'=>σ'=some x::rest) ⟨v0,e0⟩
  (fun i l h=>?_) (fun l=>?_) (fun i l x H' hi h=>?_) (fun x _ σ' H' K h1 h2=>?_) (fun x hx σ' l K h1 h2=>h2) (fun x hx hp σ' l K h1 h2=>?_) ?_ ?_
 ·rw [List.length_map,List.length_range] at h
  exact h
 ·show n≤_
  rw [List.length_map,List.length_range]
  exact Nat.le_refl _
 ·obtain ⟨rfl,hx⟩:=h
  refine ⟨rfl,?_⟩
  rw [List.length_map,List.length_range] at hi
  rw [List.getElem?_map,List.getElem?_range hi,hx,Int.zero_add]
  rfl
 ·obtain ⟨v,rfl⟩:=h1
  exact h2 _ ⟨_,rfl⟩ rfl
 ·obtain ⟨i,hi,rfl⟩:=List.mem_map.mp hx
  rw [h1]
  have:=he i (List.mem_range.mp hi) l K
  refine this ?_
  have h2':=h2
  simp only [Int.toNat_natCast] at h2'
  exact h2'
 ·rw [List.length_map,List.length_range]; exact hz
 ·rw [List.filter_eq_self.mpr fun _ _=>rfl,List.map_map]
  have:((fun v=>f (match v with | .int x=>x.toNat | _=>0)) ∘ fun i:Nat=>V.int i)=f:=by
   funext i
   simp
  rw [this]
  exact hQ
end L2
end
section
namespace L2
open PySem PySem.Spec PyProof.Rows PySem.SeqAt
structure Nice (k n:Nat) (d:PyData):Prop where
 lay:d.canLay0=true
 sho:d.showable=true
 leaf:d.leavesShort 30=true
 dep:d.depth≤k
 wt:d.weight≤n
structure NiceL (k n:Nat) (ds:List PyData):Prop where
 lay:PyData.canLayAll0 ds=true
 sho:PyData.showableAll ds=true
 leaf:PyData.leavesShortAll 30 ds=true
 dep:PyData.depthAll ds≤k
 wt:PyData.weightAll ds≤n
theorem Nice.mono {k n k' n':Nat} {d:PyData} (h:Nice k n d) (hk:k≤k') (hn:n≤n'):Nice k' n' d:=⟨h.lay,h.sho,h.leaf,Nat.le_trans h.dep hk,Nat.le_trans h.wt hn⟩
theorem NiceL.nil {k n:Nat}:NiceL k n []:=⟨rfl,rfl,rfl,Nat.zero_le _,Nat.zero_le _⟩
theorem NiceL.cons {k a b n:Nat} {d:PyData} {ds:List PyData} (h:Nice k a d) (hs:NiceL k b ds) (hn:a+1+b≤n):NiceL k n (d::ds) where
 lay:=by rw [PyData.canLayAll0,h.lay,hs.lay]; rfl
 sho:=by rw [PyData.showableAll,h.sho,hs.sho]; rfl
 leaf:=by rw [PyData.leavesShortAll,h.leaf,hs.leaf]; rfl
 dep:=by rw [PyData.depthAll]; exact Nat.max_le.mpr ⟨h.dep,hs.dep⟩
 wt:=by rw [PyData.weightAll]; have:=h.wt; have:=hs.wt; omega
theorem Nice.tup {k n:Nat} {ds:List PyData} (h:NiceL k n ds):Nice (k+1) n (.tuple ds) where
 lay:=by rw [PyData.canLay0]; exact h.lay
 sho:=by rw [PyData.showable]; exact h.sho
 leaf:=by rw [PyData.leavesShort]; exact h.leaf
 dep:=by rw [PyData.depth]; exact Nat.succ_le_succ h.dep
 wt:=by rw [PyData.weight]; exact h.wt
theorem Nice.none {k n:Nat}:Nice k n .none:=⟨rfl,rfl,rfl,Nat.zero_le _,Nat.zero_le _⟩
theorem Nice.bool {k n:Nat} {b:Bool}:Nice k n (.bool b):=⟨rfl,rfl,rfl,Nat.zero_le _,Nat.zero_le _⟩
theorem Nice.int {k:Nat} {i:Int} (h:i.natAbs < 10 ^ 18):Nice k 60 (.int i):=by
 have hl:i.natAbs.log2 < 60:=by
  by_cases z:i.natAbs=0
  ·rw [z]; decide
  ·exact (Nat.log2_lt z).mpr (by omega)
 refine ⟨rfl,?_,?_,Nat.zero_le _,?_⟩
 ·rw [PyData.showable]; exact decide_eq_true (by omega)
 ·have e:=int_text_length_le10 (k:=18) (by decide) h
  have:(PyData.shown (.int i)).length≤30:=by
   show (Str.ofString (toString i)).length≤30
   rw [PySem.ofString_length]; omega
  rw [PyData.leavesShort]; exact decide_eq_true this
 ·rw [PyData.weight]; split <;> omega
theorem Nice.str {k n:Nat} {x:Str} (h:PyData.strOk x=true) (hn:x.cps.size≤n):Nice k n (.str x):=by
 refine ⟨by rw [PyData.canLay0]; exact h,rfl,?_,Nat.zero_le _,by rw [PyData.weight]; exact hn⟩
 have h1:∀ c∈x.cps.toList,c < 0x110000:=by
  intro c hcm
  have:=(Array.all_eq_true_iff_forall_mem.mp h) c (Array.mem_toList_iff.mp hcm)
  simpa using this
 rw [PyData.leavesShort]
 refine List.all_eq_true.mpr fun c hc=>decide_eq_true ?_
 have h2:=h1 c hc
 have e:(16:Nat) ^ 8=4294967296:=by decide
 omega
def Rdb (K:W.Frag) (H:Hp) (k n:Nat) (v:V):Prop:=∃ d,RdD K H v d∧Nice k n d
section
variable {K:W.Frag} {H H':Hp} {k n:Nat}
end
theorem RdDs.app {K:W.Frag} {H:Hp}:∀ {xs ys:List V} {ds es:List PyData},RdDs K H xs ds→RdDs K H ys es→RdDs K H (xs++ys) (ds++es)
 | _,_,_,_,.nil,h=>h
 | _,_,_,_,.cons a b,h=>.cons a (RdDs.app b h)
theorem J1I {X:Cx}:OpR X (compareOp .Is) (fun x y H Q=>∃ a b,x=.bl a∧y=.bl b∧Q (.bl (a == b)) H):=by
 intro pins s σ H x y v u Q I rx ry h
 obtain ⟨a,b,rfl,rfl,q⟩:=h
 obtain rfl:v=.bool a:=rx
 obtain rfl:u=.bool b:=ry
 show wpAny _ _ (do return Value.bool (← isSame (.bool a) (.bool b))) _ _ _
 have e:isSame (.bool a) (.bool b)=pure (a == b):=by
  cases a <;> cases b <;> rfl
 rw [e]
 exact wpAny_bind (wpAny_pure (wpAny_pure ⟨.bl _,H,I,rfl,q⟩))
end L2
end
section
namespace Mach
inductive AV | non | bl (b:Bool) | int (i:Int) | th (k:Nat)
 deriving DecidableEq
inductive Sg | add | sub | mul | div | less | same
 deriving DecidableEq
inductive Row
 | push (v:AV) | load (i:Nat) | nt | get (pl:Nat) | keep (i:Nat) | drop | skip (n:Nat) | unl (n:Nat) | two (g:Sg)
 | make (house many:Nat) | put (pl:Nat) | call (site word many:Nat) | straight (block many:Nat) | back
structure Blk where
 params:Nat
 size:Nat
 rows:List Row
structure AFr where
 n:Nat
 pc:Nat
 sl:List AV
 st:List AV
inductive End | val (v:AV) | thing (h:Nat) | dry | deep | great | nought
structure Prog where
 blocks:List Blk
 tables:List (List (Option Nat))
 most:Nat
 rem:Bool
noncomputable abbrev PL:=List (Int×Int)
noncomputable abbrev Mem:=Int→Option PL
noncomputable def getP (m:Mem) (k:Int):PL:=(m k).getD []
noncomputable def updM (m:Mem) (k:Int) (ps:PL):Mem:=fun j=>if j=k then some ps else m j
noncomputable def seen (ps:PL) (h:Int):PL:=ps.filter fun p=>decide (p.1=h)
noncomputable def Z0K (ps:PL) (h:Int):PL:=ps.filter fun p=>!decide (p.1=h)
structure MS where
 frames:List AFr
 made:List (Nat×List AV)
 ended:Option End
 calls:Nat
 looks:Nat
 hits:Nat
 rows:Nat
 mem:Mem
noncomputable def Bd (n:Int):Prop:=-1000000000000000≤n∧n≤1000000000000000
instance (n:Int):Decidable (Bd n):=by unfold Bd; infer_instance
noncomputable def told (n:Int):AV ⊕ End:=if Bd n then .inl (.int n) else .inr .great
noncomputable def two:Sg→AV→AV→Option (AV ⊕ End)
 | .add,.int a,.int b=>some (told (a+b))
 | .sub,.int a,.int b=>some (told (a - b))
 | .mul,.int a,.int b=>some (told (a * b))
 | .div,.int a,.int b=>some (if b=0 then .inr .nought else told (a.fdiv b))
 | .less,.int a,.int b=>some (.inl (.bl (decide (a < b))))
 | .same,.int a,.int b=>some (.inl (.bl (decide (a=b))))
 | .same,.bl a,.bl b=>some (.inl (.bl (decide (a=b))))
 | .same,.th a,.th b=>some (.inl (.bl (decide (a=b))))
 | _,_,_=>none
noncomputable def ends (s:MS) (e:End):MS:={ s with frames:=[],ended:=some e }
noncomputable def own (f:AFr) (made:List (Nat×List AV)):Row→Option (AFr ⊕ End)
 | .push v=>some (.inl { f with pc:=f.pc+1,st:=v::f.st })
 | .load i=>(f.sl[i]?).map fun v=>.inl { f with pc:=f.pc+1,st:=v::f.st }
 | .nt=>match f.st with
  | .bl b::st=>some (.inl { f with pc:=f.pc+1,st:=.bl (!b)::st })
  | _=>none
 | .get pl=>match f.st with
  | .th k::st=>(made[k]?).bind fun t=>(t.2[pl]?).map fun v=>.inl { f with pc:=f.pc+1,st:=v::st }
  | _=>none
 | .keep i=>match f.st with
  | v::st=>if i < f.sl.length then some (.inl { f with pc:=f.pc+1,sl:=f.sl.set i v,st:=st }) else none
  | _=>none
 | .drop=>match f.st with
  | _::st=>some (.inl { f with pc:=f.pc+1,st:=st })
  | _=>none
 | .skip n=>some (.inl { f with pc:=f.pc+1+n })
 | .unl n=>match f.st with
  | .bl b::st=>some (.inl { f with pc:=f.pc+1+(if b then 0 else n),st:=st })
  | _=>none
 | .two g=>match f.st with
  | y::x::st=>(two g x y).map fun r=>match r with
   | .inl v=>.inl { f with pc:=f.pc+1,st:=v::st }
   | .inr e=>.inr e
  | _=>none
 | _=>none
noncomputable def enter (P:Prog) (s:MS) (f:AFr) (fs:List AFr) (block many:Nat):Option MS:=
 if P.most≤s.calls then some (ends s .dry)
 else if 40 < fs.length+1 then some (ends { s with calls:=s.calls+1 } .deep)
 else if many≤f.st.length then (P.blocks[block]?).bind fun b=>if many≤b.size then
  some { s with calls:=s.calls+1,frames:=⟨block,0,(f.st.take many).reverse++List.replicate (b.size - many) .non,[]⟩::{ f with pc:=f.pc+1,st:=f.st.drop many }::fs } else none
 else none
noncomputable def found (P:Prog) (s:MS) (house site word:Nat):Option (Nat×MS):=
 let looked:=((P.tables[house]?).bind fun t=>(t[word]?).join).map fun b=>(b,{ s with looks:=s.looks+1,mem:=if P.rem then updM s.mem site (((house:Int),(b:Int))::getP s.mem site |>.take 2) else s.mem })
 if P.rem then
  match seen (getP s.mem site) house with
  | (_,b)::_=>some (b.toNat,{ s with hits:=s.hits+1,mem:=updM s.mem site (seen (getP s.mem site) house++Z0K (getP s.mem site) house) })
  | []=>looked
 else looked
noncomputable def rowM (P:Prog) (s:MS) (f:AFr) (fs:List AFr):Row→Option MS
 | .make h m=>if m≤f.st.length then some { s with made:=s.made++[(h,(f.st.take m).reverse)],frames:={ f with pc:=f.pc+1,st:=.th s.made.length::f.st.drop m }::fs } else none
 | .put pl=>match f.st with
  | v::.th k::st=>(s.made[k]?).bind fun t=>if pl < t.2.length then some { s with made:=s.made.set k (t.1,t.2.set pl v),frames:={ f with pc:=f.pc+1,st:=v::st }::fs } else none
  | _=>none
 | .call site word many=>match (f.st.take many).reverse with
  | .th k::_=>if many≤f.st.length then (s.made[k]?).bind fun t=>(found P s t.1 site word).bind fun r=>enter P r.2 f fs r.1 many else none
  | _=>none
 | .straight b many=>enter P s f fs b many
 | .back=>match f.st with
  | v::_=>match fs with
   | []=>match v with
    | .th k=>(s.made[k]?).map fun t=>ends s (.thing t.1)
    | v=>some (ends s (.val v))
   | g::gs=>some { s with frames:={ g with st:=v::g.st }::gs }
  | _=>none
 | r=>(own f s.made r).map fun o=>match o with
  | .inl f'=>{ s with frames:=f'::fs }
  | .inr e=>ends s e
noncomputable def row? (P:Prog) (f:AFr):Option Row:=(P.blocks[f.n]?).bind fun b=>b.rows[f.pc]?
noncomputable def step (P:Prog) (s:MS):Option MS:=match s.ended,s.frames with
 | none,f::fs=>(row? P f).bind fun r=>rowM P { s with rows:=s.rows+1 } f fs r
 | _,_=>none
theorem Z8S {P:Prog} {s:MS} {f:AFr} {fs:List AFr} {r:Row} (h1:s.ended=none) (h2:s.frames=f::fs) (h3:row? P f=some r):step P s=rowM P { s with rows:=s.rows+1 } f fs r:=by
 unfold step
 rw [h1,h2]
 show (row? P f).bind _=_
 rw [h3]
 rfl
end Mach
end
section
namespace MM
open PySem L2
open Mach (AV AFr Row Sg Blk MS PL Mem getP updM seen Z0K)
noncomputable def SameT (H H':Hp):Prop:=∀ b xs,(H b=some (.tup xs)→H' b=some (.tup xs))∧∀ o,H b=some (.frz o (.tup xs))→H' b=some (.frz o (.tup xs))
theorem SqT.t {K:W.Frag} {H H':Hp} {a:Addr} {xs:List V} (h:SqT K H a xs) (e:SameT H H'):SqT K H' a xs:=by
 rcases h with (h | ⟨o,h⟩) | h
 ·exact .inl (.inl ((e a xs).1 h))
 ·exact .inl (.inr ⟨o,(e a xs).2 o h⟩)
 ·exact .inr h
theorem Same.t {H H':Hp} (s:Same H H'):SameT H H':=fun b xs=>⟨s b _,fun o=>s b _⟩
theorem SameT.trans {H H' H'':Hp} (a:SameT H H') (b:SameT H' H''):SameT H H'':=fun c xs=>⟨fun h=>(b c xs).1 ((a c xs).1 h),fun o h=>(b c xs).2 o ((a c xs).2 o h)⟩
theorem Z2l {H:Hp} {a:Addr} {u:HO} (o:HO) (h:H a=some u) (n:(∀ xs,u≠.tup xs)∧∀ o xs,u≠.frz o (.tup xs)):SameT H (upd H a o):=fun b xs=>
 ⟨fun e=>by rw [Z0h (fun z=>by rw [z,h] at e; cases e; exact n.1 _ rfl)]; exact e,fun o' e=>by rw [Z0h (fun z=>by rw [z,h] at e; cases e; exact n.2 _ _ rfl)]; exact e⟩
theorem Z2a {xs:List V}:(∀ ys,HO.lst xs≠.tup ys)∧∀ o ys,HO.lst xs≠.frz o (.tup ys):=⟨fun _ z=>(by cases z),fun _ _ z=>by cases z⟩
theorem J1z {C dx:Addr} {fs:List (Str×V)}:(∀ ys,HO.ins C dx fs≠.tup ys)∧∀ o ys,HO.ins C dx fs≠.frz o (.tup ys):=⟨fun _ z=>(by cases z),fun _ _ z=>by cases z⟩
theorem J0T {kvs:List (Key×V)}:(∀ ys,HO.dK kvs≠.tup ys)∧∀ o ys,HO.dK kvs≠.frz o (.tup ys):=⟨fun _ z=>(by cases z),fun _ _ z=>by cases z⟩
noncomputable def AtV (K:W.Frag) (H:Hp) (v:V):AV→Prop
 | .non=>v=.non
 | .bl b=>v=.bl b
 | .int i=>v=.int i∧Mach.Bd i
 | .th k=>∃ t,v=.ref t∧H t=some (.tup [.str "thing",.int k])∧k < 1000000
noncomputable abbrev AtVs (K:W.Frag) (H:Hp):List V→List AV→Prop:=Paired (AtV K H)
theorem AtV.t {K:W.Frag} {H H':Hp} {v:V} {a:AV} (h:AtV K H v a) (s:SameT H H'):AtV K H' v a:=by
 cases a with
 | th k=>obtain ⟨t,e,x,l⟩:=h; exact ⟨t,e,(s _ _).1 x,l⟩
 | _=>exact h
theorem Pd.imp {α β:Type} {R S:α→β→Prop} (f:∀ a b,R a b→S a b):∀ {xs:List α} {ys:List β},Paired R xs ys→Paired S xs ys
 | _,_,.nil=>.nil
 | _,_,.cons a b=>.cons (f _ _ a) (Pd.imp f b)
theorem AtVs.t {K:W.Frag} {H H':Hp} {vs:List V} {as:List AV} (h:AtVs K H vs as) (s:SameT H H'):AtVs K H' vs as:=Pd.imp (fun _ _ x=>AtV.t x s) h
theorem Pd.at {α β:Type} {R:α→β→Prop}:∀ {xs:List α} {ys:List β} {i:Nat} {y:β},Paired R xs ys→ys[i]?=some y→∃ x,xs[i]?=some x∧R x y
 | _,_,_,_,.nil,e=>by simp at e
 | _,_,0,_,.cons r _,e=>by simp at e; subst e; exact ⟨_,rfl,r⟩
 | _,_,i+1,y,.cons _ t,e=>by
  obtain ⟨u,h1,h2⟩:=Pd.at (i:=i) (y:=y) t (by simpa using e)
  exact ⟨u,by simpa using h1,h2⟩
theorem Pd.app {α β:Type} {R:α→β→Prop}:∀ {xs xs':List α} {ys ys':List β},Paired R xs ys→Paired R xs' ys'→Paired R (xs++xs') (ys++ys')
 | _,_,_,_,.nil,s=>s
 | _,_,_,_,.cons r t,s=>.cons r (Pd.app t s)
theorem Pd.take {α β:Type} {R:α→β→Prop}:∀ {xs:List α} {ys:List β} (n:Nat),Paired R xs ys→Paired R (xs.take n) (ys.take n)
 | _,_,0,_=>.nil
 | _,_,_+1,.nil=>.nil
 | _,_,n+1,.cons r t=>.cons r (Pd.take n t)
theorem Pd.drop {α β:Type} {R:α→β→Prop}:∀ {xs:List α} {ys:List β} (n:Nat),Paired R xs ys→Paired R (xs.drop n) (ys.drop n)
 | _,_,0,h=>h
 | _,_,_+1,.nil=>.nil
 | _,_,n+1,.cons _ t=>Pd.drop n t
theorem Pd.set {α β:Type} {R:α→β→Prop} {x:α} {y:β} (h:R x y):∀ {xs:List α} {ys:List β} (n:Nat),Paired R xs ys→Paired R (xs.set n x) (ys.set n y)
 | _,_,_,.nil=>.nil
 | _,_,0,.cons _ t=>.cons h t
 | _,_,n+1,.cons r t=>.cons r (Pd.set h n t)
theorem Pd.snoc_inv {α β:Type} {R:α→β→Prop} {xs:List α} {ys:List β} {y:β} (h:Paired R xs (ys++[y])):∃ xs' x,xs=xs'++[x]∧Paired R xs' ys∧R x y:=by
 induction ys generalizing xs with
 | nil=>cases h with | cons a b=>cases b; exact ⟨[],_,rfl,.nil,a⟩
 | cons z zs ih=>
  cases h with
  | cons a b=>
   obtain ⟨xs',x,rfl,p,q⟩:=ih b
   exact ⟨_::xs',x,rfl,.cons a p,q⟩
theorem AtV.rd {K:W.Frag} {H:Hp} {v:V} {a:AV} (h:AtV K H v a):Rdb K H 1 100 v:=by
 cases a with
 | non=>cases h; exact ⟨_,.non,.none⟩
 | bl b=>cases h; exact ⟨_,.bl b,.bool⟩
 | int i=>obtain ⟨rfl,hb⟩:=h; exact ⟨_,.int i,(Nice.int (by unfold Mach.Bd at hb; omega)).mono (Nat.le_refl _) (by decide)⟩
 | th k=>
  obtain ⟨t,rfl,b,l⟩:=h
  exact ⟨_,.tup (SqT.of b) (.cons (.str _) (.cons (.int k) .nil)),(Nice.tup (k:=0) (n:=100) (.cons (a:=5) (b:=61) (.str (by decide +kernel) (by decide +kernel)) (.cons (a:=60) (b:=0) (.int (by omega)) .nil (by decide)) (by decide)))⟩
theorem AtVs.rd {K:W.Frag} {H:Hp}:∀ {vs:List V} {as:List AV},AtVs K H vs as→∀ v∈vs,Rdb K H 1 100 v
 | _,_,.nil,v,hv=>by cases hv
 | _,_,.cons a b,v,hv=>by
  rcases List.mem_cons.mp hv with rfl | hv
  ·exact a.rd
  ·exact AtVs.rd b v hv
end MM
end
section
namespace L2
open PySem PySem.Spec PyProof.Rows
section
variable {κ:Type} [DecidableEq κ]
def valV (kvs:List (κ×V)) (k:κ):Option V:=(kvs.find? fun kv=>decide (kv.1=k)).map (·.2)
def putK (kvs:List (κ×V)) (k:κ) (v:V):List (κ×V):=
 if (kvs.any fun kv=>decide (kv.1=k))=true then kvs.map (fun kv=>if kv.1=k then (kv.1,v) else kv) else kvs++[(k,v)]
theorem Z1A {p:κ×V} {r:List (κ×V)} {k:κ} (e:p.1=k):valV (p::r) k=some p.2:=by simp [valV,List.find?_cons,e]
theorem Z1K {p:κ×V} {r:List (κ×V)} {k:κ} (e:¬ p.1=k):valV (p::r) k=valV r k:=by simp [valV,List.find?_cons,e]
theorem Z3V (k:κ):∀ kvs:List (κ×V),(kvs.any fun kv=>decide (kv.1=k))=(valV kvs k).isSome
 | []=>rfl
 | p::r=>by
  rw [List.any_cons]
  by_cases e:p.1=k
  ·simp only [Z1A e,decide_eq_true e,Bool.true_or,Option.isSome_some]
  ·rw [Z1K e,decide_eq_false e,Bool.false_or]; exact Z3V k r
theorem Z6R (k j:κ) (y:V):∀ kvs:List (κ×V),valV (kvs.map fun kv=>if kv.1=k then (kv.1,y) else kv) j=(valV kvs j).map fun x=>if j=k then y else x
 | []=>rfl
 | p::r=>by
  have ih:=Z6R k j y r
  rw [List.map_cons]
  by_cases h:p.1=k
  ·rw [if_pos h]
   by_cases e:p.1=j
   ·rw [Z1A (p:=(p.1,y)) e,Z1A e,Option.map_some,if_pos (e.symm.trans h)]
   ·rw [Z1K (p:=(p.1,y)) e,Z1K e,ih]
  ·rw [if_neg h]
   by_cases e:p.1=j
   ·rw [Z1A (p:=p) e,Z1A e,Option.map_some,if_neg (fun z=>h (e.trans z))]
   ·rw [Z1K (p:=p) e,Z1K e,ih]
theorem Z5z (k j:κ) (y:V):∀ kvs:List (κ×V),valV kvs k=none→valV (kvs++[(k,y)]) j=if j=k then some y else valV kvs j
 | [],_=>by
  by_cases e:k=j
  ·rw [if_pos e.symm]; exact Z1A (p:=(k,y)) e
  ·rw [if_neg (fun z=>e z.symm)]; exact Z1K (p:=(k,y)) e
 | p::r,hn=>by
  rw [List.cons_append]
  have hk:¬ p.1=k:=fun z=>by rw [Z1A z] at hn; cases hn
  rw [Z1K hk] at hn
  have ih:=Z5z k j y r hn
  by_cases e:p.1=j
  ·rw [Z1A e,Z1A e,if_neg (fun z=>hk (e.trans z))]
  ·rw [Z1K e,Z1K e,ih]
theorem Z2X (kvs:List (κ×V)) (k j:κ) (y:V):valV (putK kvs k y) j=if j=k then some y else valV kvs j:=by
 unfold putK
 by_cases a:(kvs.any fun kv=>decide (kv.1=k))=true
 ·rw [if_pos a,Z6R]
  rw [Z3V] at a
  by_cases e:j=k
  ·obtain ⟨x,hx⟩:=Option.isSome_iff_exists.mp a
   rw [if_pos e,e,hx,Option.map_some,if_pos rfl]
  ·rw [if_neg e]
   cases valV kvs j with
   | none=>rfl
   | some x=>rw [Option.map_some,if_neg e]
 ·rw [if_neg a]
  refine Z5z k j y kvs ?_
  rw [Z3V] at a
  cases q:valV kvs k with
  | none=>rfl
  | some x=>rw [q] at a; exact (a rfl).elim
theorem Z2j (kvs:List (κ×V)) (k:κ) (v:V):(putK kvs k v).length≤kvs.length+1:=by
 unfold putK
 split
 ·rw [List.length_map]; omega
 ·rw [List.length_append,List.length_cons,List.length_nil]; omega
theorem RelO.isSome_eq {o:Option V} {u:Option Value} (r:RelO o u):o.isSome=u.isSome:=by
 cases o with
 | none=>cases u with
  | none=>rfl
  | some _=>exact (show False from r).elim
 | some _=>cases u with
  | none=>exact (show False from r).elim
  | some _=>rfl
theorem RelO.getD {o:Option V} {u:Option Value} {d:V} {d':Value} (r:RelO o u) (rd:RelV d d'):RelV (o.getD d) (u.getD d'):=by
 cases o with
 | none=>cases u with
  | none=>exact rd
  | some _=>exact (show False from r).elim
 | some _=>cases u with
  | none=>exact (show False from r).elim
  | some _=>exact r
theorem KV.val {kvs:List (κ×V)} {vs:List (κ×Value)} (r:KV kvs vs) (k:κ):RelO (valV kvs k) (valueAt vs k):=by
 unfold KV at r
 induction r with
 | nil=>exact True.intro
 | @cons p q ps qs h t ih=>
  obtain ⟨h1,h2⟩:=h
  by_cases e:p.1=k
  ·have e':q.1=k:=h1.symm.trans e
   have b:valueAt (q::qs) k=some q.2:=by simp [valueAt,List.find?_cons,e']
   rw [Z1A e,b]; exact h2
  ·have e':¬ q.1=k:=fun z=>e (h1.trans z)
   have b:valueAt (q::qs) k=valueAt qs k:=by simp [valueAt,List.find?_cons,e']
   rw [Z1K e,b]; exact ih
theorem KV.any {kvs:List (κ×V)} {vs:List (κ×Value)} (r:KV kvs vs) (k:κ):(kvs.any fun kv=>decide (kv.1=k))=vs.any fun kv=>decide (kv.1=k):=by
 unfold KV at r
 induction r with
 | nil=>rfl
 | cons h t ih=>rw [List.any_cons,List.any_cons,ih,h.1]
theorem KV.repl {kvs:List (κ×V)} {vs:List (κ×Value)} (r:KV kvs vs) (k:κ) {y:V} {u:Value} (ry:RelV y u) :
  KV (kvs.map fun kv=>if kv.1=k then (kv.1,y) else kv) (vs.map fun kv=>if kv.1=k then (kv.1,u) else kv):=by
 unfold KV at r ⊢
 induction r with
 | nil=>exact .nil
 | @cons p q ps qs h t ih=>
  rw [List.map_cons,List.map_cons]
  refine .cons ?_ ih
  obtain ⟨h1,h2⟩:=h
  by_cases e:p.1=k
  ·rw [if_pos e,if_pos (h1.symm.trans e)]; exact ⟨h1,ry⟩
  ·rw [if_neg e,if_neg (fun z=>e (h1.trans z))]; exact ⟨h1,h2⟩
theorem KV.put {kvs:List (κ×V)} {vs:List (κ×Value)} (r:KV kvs vs) (k:κ) {y:V} {u:Value} (ry:RelV y u):KV (putK kvs k y) (stored vs k u):=by
 unfold putK stored
 rw [r.any k]
 by_cases e:(vs.any fun kv=>decide (kv.1=k))=true
 ·rw [if_pos e,if_pos e]; exact r.repl k ry
 ·rw [if_neg e,if_neg e]; exact Paired.snoc r ⟨rfl,ry⟩
theorem KV.length {kvs:List (κ×V)} {vs:List (κ×Value)} (r:KV kvs vs):kvs.length=vs.length:=Paired.length r
end
theorem Z6x {P:Program} {w:World} {k:Key} {u:Value} (r:RelV (kV k) u):(Z0Z P w).is k u=true:=by
 cases k with
 | inl i=>obtain ⟨t,e⟩:=(show ∃ t,u=Value.int i t from r); subst e; exact Z6v P w i t
 | inr x=>obtain ⟨t,e⟩:=(show ∃ t,u=Value.str x t from r); subst e; exact Z6C P w x t
theorem Z6f {P:Program} {w:World}:∀ {ks:List Key} {us:List Value},Vals (ks.map kV) us→ItemsAre (Z0Z P w) ks us
 | [],_,r=>by rw [List.map_nil] at r; cases r; exact .nil
 | k::ks,_,r=>by
  rw [List.map_cons] at r
  cases r with
  | cons h t=>exact .cons (Z6x h) (Z6f t)
abbrev KT (H:Hp):List (List Key×V)→List (List Key×Addr×Value)→Prop:=Paired fun p q=>p.1=q.1∧H q.2.1=some (.tup (p.1.map kV))∧RelV p.2 q.2.2
theorem KT.val {H:Hp} {kvs:List (List Key×V)} {xs:List (List Key×Addr×Value)} (r:KT H kvs xs) (k:List Key):RelO (valV kvs k) ((atKey xs k).map (·.2)):=by
 induction r with
 | nil=>exact True.intro
 | @cons p q ps qs h t ih=>
  obtain ⟨h1,_,h2⟩:=h
  by_cases e:p.1=k
  ·have e':q.1=k:=h1.symm.trans e
   have b:atKey (q::qs) k=some q.2:=by simp [atKey,List.find?_cons,e']
   rw [Z1A e,b]; exact h2
  ·have e':¬ q.1=k:=fun z=>e (h1.trans z)
   have b:atKey (q::qs) k=atKey qs k:=by simp [atKey,List.find?_cons,e']
   rw [Z1K e,b]; exact ih
theorem KT.repl {H:Hp} {kvs:List (List Key×V)} {xs:List (List Key×Addr×Value)} (r:KT H kvs xs) (k:List Key) {y:V} {u:Value} (ry:RelV y u) :
  KT H (kvs.map fun kv=>if kv.1=k then (kv.1,y) else kv) (xs.map (putAt k u)):=by
 induction r with
 | nil=>exact .nil
 | @cons p q ps qs h t ih=>
  rw [List.map_cons,List.map_cons]
  refine .cons ?_ ih
  obtain ⟨h1,h2,h3⟩:=h
  unfold putAt
  by_cases e:p.1=k
  ·rw [if_pos e,if_pos (h1.symm.trans e)]; exact ⟨h1,h2,ry⟩
  ·rw [if_neg e,if_neg (fun z=>e (h1.trans z))]; exact ⟨h1,h2,h3⟩
theorem KT.put {H:Hp} {kvs:List (List Key×V)} {xs:List (List Key×Addr×Value)} (r:KT H kvs xs) (k:List Key) {b:Addr} {y:V} {u:Value} (hb:H b=some (.tup (k.map kV))) (ry:RelV y u) :
  KT H (putK kvs k y) (storedH xs k b u):=by
 have e:(kvs.any fun kv=>decide (kv.1=k))=(atKey xs k).isSome:=by
  rw [Z3V,(r.val k).isSome_eq,Option.isSome_map]
 unfold putK storedH
 rw [e]
 by_cases q:(atKey xs k).isSome=true
 ·rw [if_pos q,if_pos q]; exact r.repl k ry
 ·rw [if_neg q,if_neg q]; exact Paired.snoc r ⟨rfl,hb,ry⟩
theorem KT.keeps {H H':Hp} {kvs:List (List Key×V)} {xs:List (List Key×Addr×Value)} (r:KT H kvs xs) (ht:∀ b ys,H b=some (.tup ys)→H' b=some (.tup ys)):KT H' kvs xs:=
 Paired.mapP r fun _ _ z=>⟨z.1,ht _ _ z.2.1,z.2.2⟩
section
variable {P:Program} {w:World} {H:Hp} {h:Heap} {a:Addr}
theorem J3L {u:HO} (ok:HOk P w H h) (e:Rd H a u):ObjOk P w H h a u:=e.ok ok
theorem Z9W {kvs:List (Key×V)} (ok:HOk P w H h) (e:Rd H a (.dK kvs)):kvs.length≤sizeLine∧(a == sysModules)=false∧∃ vs,KV kvs vs∧h.DictOf (Z0Z P w) a vs:=
 show ObjOk P w H h a (.dK kvs) from J3L ok e
theorem J3G {kvs:List (Key×V)} (ok:HOk P w H h) (e:H a=some (.dK kvs)):kvs.length≤sizeLine∧(a == sysModules)=false∧∃ vs,KV kvs vs∧h.DictOf (Z0Z P w) a vs:=Z9W ok (.inl e)
theorem Z6G {ks:List Key} (ok:HOk P w H h) (e:H a=some (.tup (ks.map kV))):(tupleKind (Z0Z P w)).is h ks a:=by
 obtain ⟨_,its,r,o,h1,h2,n,h3⟩:=(show ObjOk P w H h a (.tup (ks.map kV)) from ok a _ e)
 exact ⟨o,its.toArray,n,h1,h2,h3,by simpa using Z6f r⟩
theorem Z8O {kvs:List (List Key×V)} (ok:HOk P w H h) (e:Rd H a (.dT kvs)):kvs.length≤sizeLine∧(a == sysModules)=false ∧
  ∃ xs,KT H kvs xs∧h.DictOfH (tupleKind (Z0Z P w)) a xs:=by
 obtain ⟨z,y,xs,r,o,es,ep,h1,h2,h3,h4,h5⟩:=(show ObjOk P w H h a (.dT kvs) from J3L ok e)
 refine ⟨z,y,xs,r,o,es,ep,h1,h2,h3,h4,fun x hx=>?_,h5⟩
 have all:∀ {l:List (List Key×V)} {m:List (List Key×Addr×Value)},KT H l m→∀ x∈m,(tupleKind (Z0Z P w)).is h x.1 x.2.1:=by
  intro l m q
  induction q with
  | nil=>intro x hx; exact nomatch hx
  | @cons p q ps qs hq t ih=>
   intro x hx
   rcases List.mem_cons.mp hx with e | hx
   ·subst e
    exact Z6G ok (by rw [← hq.1]; exact hq.2.1)
   ·exact ih x hx
 exact all r x hx
theorem J6L {kvs:List (List Key×V)} (ok:HOk P w H h) (e:H a=some (.dT kvs)):kvs.length≤sizeLine∧(a == sysModules)=false ∧
  ∃ xs,KT H kvs xs∧h.DictOfH (tupleKind (Z0Z P w)) a xs:=Z8O ok (.inl e)
end
def DGet (H:Hp) (a:Addr) (y:V) (r:Option V):Prop:=
 (∃ kvs k,Rd H a (.dK kvs)∧y=kV k∧r=valV kvs k)∨∃ kvs k b,Rd H a (.dT kvs)∧y=.ref b∧H b=some (.tup (k.map kV))∧r=valV kvs k
def DPut (H:Hp) (a:Addr) (y v:V) (H':Hp):Prop:=
 (∃ kvs k,H a=some (.dK kvs)∧y=kV k∧kvs.length < sizeLine∧H'=upd H a (.dK (putK kvs k v))) ∨
 ∃ kvs k b,H a=some (.dT kvs)∧y=.ref b∧H b=some (.tup (k.map kV))∧kvs.length < sizeLine∧H'=upd H a (.dT (putK kvs k v))
theorem DGet.k {H:Hp} {a:Addr} {kvs:List (Key×V)} {k:Key} (e:H a=some (.dK kvs)):DGet H a (kV k) (valV kvs k):=.inl ⟨kvs,k,.inl e,rfl,rfl⟩
theorem DPut.k {H:Hp} {a:Addr} {kvs:List (Key×V)} {k:Key} {v:V} (e:H a=some (.dK kvs)) (hl:kvs.length < sizeLine):DPut H a (kV k) v (upd H a (.dK (putK kvs k v))):=.inl ⟨kvs,k,e,rfl,hl,rfl⟩
section
variable {X:Cx} {pins:List (Addr×Obj)} {σ:St} {H:Hp} {s:Shared} {a:Addr} {y v:V} {u r:Value} {o:Option V} {A:Around} {E:Value→Shared→Prop}
theorem Inv.big (I:Inv X pins σ H s):sysModules < s.heap.objs.size:=by
 have h:mainGlobals < s.heap.objs.size:=(I.mod.glob.keeps I.bk).lt
 exact Nat.lt_trans (by decide) h
theorem Z9f {Q:Value→Shared→Prop} (hu:A.units+1 < cLine) (I:Inv X pins σ H s) (g:DGet H a y (some v)) (ry:RelV y u) (h:∀ w' s',Inv X pins σ H s'→RelV v w'→Q w' s') :
  wpAny (model X.prog X.w) A (getItem (.ref a) u) Q E s:=by
 rcases g with ⟨kvs,k,e,ey,l⟩ | ⟨kvs,k,b,e,ey,eb,l⟩
 ·subst ey
  obtain ⟨z,hd,vs,rel,dd⟩:=Z9W I.hok e
  obtain ⟨w',hw,rw'⟩:=RelO.some_of (v:=v) (o:=valueAt vs k) (by rw [l]; exact rel.val k)
  exact wpAny_getItem_of (Z6x ry) dd.mapOf hw (h w' _ (I.tok _) rw')
 ·subst ey
  cases (show u=Value.ref b from ry)
  obtain ⟨z,hd,xs,rel,dd⟩:=Z8O I.hok e
  obtain ⟨w',hw,rw'⟩:=RelO.some_of (v:=v) (o:=(atKey xs k).map (·.2)) (by rw [l]; exact rel.val k)
  obtain ⟨p,hp,hp2⟩:=Option.map_eq_some_iff.mp hw
  refine wpAny_getItem_heap (tupleKind_room_in1 hu) (Z6G I.hok eb) dd hp ?_
  rw [hp2]
  exact h w' _ (I.tok _) rw'
theorem Z6E {h':Heap} {t':Nat} {ob:HO} (I:Inv X pins σ H s) (mu:Mut (H a)) (hs:Heap.SameBut a s.heap h') (he:∃ q,h'.get? a=some q) (new:ObjOk X.prog X.w (upd H a ob) h' a ob) :
  Inv X pins σ (upd H a ob) { s with heap:=h',toks:=t' }:=
 I.write (x:=a) (e:=a) mu (.inl rfl) (fun b q hb z=>(hs.2 b hb).trans z) he new
theorem J1P {P:Program} {w:World} {H':Hp} {h':Heap} {kvs:List (Key×V)} {vs:List (Key×Value)} (z:kvs.length≤sizeLine) (hd:(a == sysModules)=false) (rel:KV kvs vs) (dd:h'.DictOf (Z0Z P w) a vs) :
  ObjOk P w H' h' a (.dK kvs):=⟨z,hd,vs,rel,dd⟩
theorem Z9w {H':Hp} {Q:Unit→Shared→Prop} (hu:A.units+1 < cLine) (I:Inv X pins σ H s) (g:DPut H a y v H') (ry:RelV y u) (rv:RelV v r) (h:∀ s',Inv X pins σ H' s'→Q () s') :
  wpAny (model X.prog X.w) A (setItem (.ref a) u r) Q E s:=by
 rcases g with ⟨kvs,k,e,ey,l,eH⟩ | ⟨kvs,k,b,e,ey,eb,l,eH⟩
 ·subst ey eH
  obtain ⟨z,hd,vs,rel,dd⟩:=J3G I.hok e
  have hz:vs.length≤sizeLine:=by rw [← rel.length]; exact z
  have hl:(putK kvs k v).length≤sizeLine:=by have:=Z2j kvs k v; omega
  refine wpAny_setItem_pairs (hsz:=hz) (Z6x ry) dd fun h' dd' hs=>h _ ?_
  have he:∃ q,h'.get? a=some q:=let ⟨q,_,_,hq,_⟩:=dd'; ⟨q,hq⟩
  exact Z6E I (by rw [e]; exact True.intro) hs he (J1P hl hd (rel.put k rv) dd')
 ·subst ey eH
  cases (show u=Value.ref b from ry)
  obtain ⟨z,hd,xs,rel,dd⟩:=J6L I.hok e
  have hz:xs.length≤sizeLine:=by rw [← Paired.length rel]; exact z
  have hl:(putK kvs k v).length≤sizeLine:=by have:=Z2j kvs k v; omega
  refine wpAny_setItem_heap (hsz:=hz) (tupleKind_room_in1 hu) (Z6G I.hok eb) dd fun h' dd' hs=>h _ ?_
  obtain ⟨q,es,ep,hq,h2,h3,h4,_,h5⟩:=dd'
  refine Z6E I (by rw [e]; exact True.intro) hs ⟨q,hq⟩ ⟨hl,hd,_,(rel.put k eb rv).keeps fun c ys ec=>?_,q,es,ep,hq,h2,h3,h4,h5⟩
  rw [Z0h (Z1l ec e (fun z=>nomatch z))]
  exact ec
end
section
variable {X:Cx} {pins:List (Addr×Obj)} {σ:St} {H:Hp} {s:Shared} {a:Addr} {kvs:List (Key×V)} {k:Key} {u:Value} {A:Around} {E:Value→Shared→Prop}
end
def NoSl (i:Expr):Prop:=∀ ov iv,subscripted i false ov iv=operate [ov,iv] (getItem ov iv)
theorem Z8I {prog:Program} {w:World} {A:Around} {E:Value→Shared→Prop} {s:Shared} {env:Env} {value slice:Expr} {pos:Pos} {T id:String} {Q:Value→Shared→Prop}
  (hl:typeLookup (.type T) "__getitem__"=pure (some (.builtin id))) (hs:NoSl slice)
  (h:wpAny (model prog w) A (eval value env) (fun o s₁=>wpAny (model prog w) A (eval slice env) (fun i s₂=>s₂.TypeIs o T∧wpAny (model prog w) A (getItem o i) Q E s₂) E s₁) E s) :
  wpAny (model prog w) A (eval (.Subscript value slice pos) env) Q E s:=by
 refine Subscript_ (wpAny_mono h (fun o s₁ h₁=>wpAny_mono h₁ (fun i s₂ h₂=>?_) fun _ _ x=>x) fun _ _ x=>x)
 obtain ⟨hT,h₂⟩:=h₂
 unfold subscriptTail
 refine wpAny_bind ?_
 rw [getitemInPython_of_ne hT.not_modules]
 refine wpAny_bind (wpAny_specialOf hT hl ?_)
 have fin:wpAny (model prog w) A (subscripted slice false o i) (fun r s₃=>wpAny (model prog w) A (letTemporaryGo value o r >>= fun _=>pure r) Q E s₃) E s₂:=by
  rw [hs o i]
  exact wpAny_operating (wpAny_mono h₂ (fun r s₃ h₃=>wpAny_bind (wpAny_letTemporaryGo (wpAny_pure h₃))) fun _ _ x=>x)
 first
  | exact wpAny_pure (wpAny_bind fin)
  | exact wpAny_bind (wpAny_pure (wpAny_bind fin))
  | exact wpAny_bind fin
theorem Z6l {X:Cx} {pins:List (Addr×Obj)} {σ:St} {H:Hp} {s:Shared} {a:Addr} {y:V} {o:Option V} (I:Inv X pins σ H s) (g:DGet H a y o):s.TypeIs (.ref a) "dict":=by
 rcases g with ⟨kvs,k,e,_,_⟩ | ⟨kvs,k,b,e,_,_,_⟩
 ·obtain ⟨_,_,vs,_,dd⟩:=Z9W I.hok e
  exact dd.typeIs
 ·obtain ⟨_,_,xs,_,dd⟩:=Z8O I.hok e
  exact dd.typeIs
def J4p (td ty:TE):TE:=fun σ H Q=>td σ H fun x H1=>ty σ H1 fun y H2=>∃ a v,x=.ref a∧DGet H2 a y (some v)∧Q v H2
def J4A (td ty tv:TE):TS:=fun D σ H=>tv σ H fun v H1=>td σ H1 fun x H2=>ty σ H2 fun y H3=>∃ a H4,x=.ref a∧DPut H3 a y v H4∧D.nx σ H4
section
variable {X:Cx} {o i e value:Expr} {pos pos' tpos:Pos} {td ty tv:TE}
theorem Z0n (hu:X.A.units+1 < cLine) (ho:PE X o td) (hi:PE X i ty) (hs:NoSl i):PE X (.Subscript o i pos) (J4p td ty):=by
 intro pins s σ H Q I h
 refine Z8I PySem.F.slot_dict_getitem.lookup hs (thn (ho pins s σ H _ I h) fun u s1 ⟨x,H1,I1,rx,q1⟩=>thn (hi pins s1 σ H1 _ I1 q1) fun iv s2 hz_=>?_)
 obtain ⟨y,H2,I2,ry,a,v,ex,g,q2⟩:=hz_
 subst ex
 obtain rfl:u=Value.ref a:=rx
 exact ⟨Z6l I2 g,Z9f hu I2 g ry fun w' s3 I3 rw'=>⟨v,H2,I3,rw',q2⟩⟩
theorem Z3D (hu:X.A.units+1 < cLine) (ho:PE X o td) (hi:PE X i ty) (hv:PE X value tv) (hs:swapsWith value (some (.Subscript o i pos')) pos.line X.env=pure false) :
  PS X (.Assign [.Subscript o i pos'] value pos) (J4A td ty tv):=by
 intro pins s σ H D I h
 refine wpAny_Assign_Subscript (thn (hv pins s σ H _ I h) fun r s1 ⟨v,H1,I1,rv,q1⟩=>thn (ho pins s1 σ H1 _ I1 q1) fun u s2 ⟨x,H2,I2,rx,q2⟩=>thn (hi pins s2 σ H2 _ I2 q2) fun iv s3 hz_=>?_) hs
 obtain ⟨y,H3,I3,ry,a,H4,ex,g,q3⟩:=hz_
 subst ex
 obtain rfl:u=Value.ref a:=rx
 exact Z9w hu I3 g ry rv fun s4 I4=>⟨σ,H4,I4,q3⟩
end
theorem Z7g {P:Program} {w:World} {H:Hp} (h:Heap) (hb:sysModules < h.objs.size):ObjOk P w H (h.push { cls:=.type "dict",data:=.dict #[] }) h.objs.size (.dK []):=
 ⟨Nat.zero_le _,beq_eq_false_iff_ne.mpr (Ne.symm (Nat.ne_of_lt hb)),[],.nil,Heap.DictOf.new h⟩
def J1x:TE:=fun _ H Q=>∀ p,H p=none→Q (.ref p) (upd H p (.dK []))
section
variable {X:Cx} {pos:Pos}
theorem Z6M:PE X (.Dict [] [] pos) J1x:=fun pins s σ H Q I h=>
 wpAny_Dict_empty ⟨.ref s.heap.objs.size,_,I.laid (a:=s.heap.objs.size) (o:=.dK []) (t':=s.toks) (fun _ _ q=>Heap.get?_push_of_some _ q) (Nat.le_refl _) (Z7g s.heap I.big),rfl,h _ (I.hok.fresh (Nat.le_refl _))⟩
end
def Z4j:List (TE×TE)→St→Hp→(List (V×V)→Hp→Prop)→Prop
 | [],_,H,Q=>Q [] H
 | (tk,tv)::r,σ,H,Q=>tk σ H fun x H1=>tv σ H1 fun y H2=>Z4j r σ H2 fun ps H3=>Q ((x,y)::ps) H3
abbrev VV:List (V×V)→List (Value×Value)→Prop:=Paired fun p q=>RelV p.1 q.1∧RelV p.2 q.2
def PPs (X:Cx) (pos:Pos) (keys:List (Option Expr)) (values:List Expr) (trs:List (TE×TE)):Prop:=
 ∀ (pins:List (Addr×Obj)) (s:Shared) (σ:St) (H:Hp) (Q:List (V×V)→Hp→Prop),Inv X pins σ H s→Z4j trs σ H Q →
  wpAny (model X.prog X.w) X.A (evalPairs (pairTrees keys values X.env pos)) (fun vs s'=>∃ ps H',Inv X pins σ H' s'∧VV ps vs∧Q ps H') X.xe s
theorem Z8h {X:Cx} {pos:Pos}:PPs X pos [] [] []:=fun pins s σ H Q I h=>pairTrees_nil_walk ⟨[],H,I,.nil,h⟩
theorem Z2u {X:Cx} {pos:Pos} {k v:Expr} {ks:List (Option Expr)} {vs:List Expr} {tk tv:TE} {trs:List (TE×TE)} (hk:PE X k tk) (hv:PE X v tv) (hr:PPs X pos ks vs trs) :
  PPs X pos (some k::ks) (v::vs) ((tk,tv)::trs):=fun pins s σ H Q I h=>
 pairTrees_cons_walk (thn (hk pins s σ H _ I h) fun u s1 ⟨x,H1,I1,rx,q1⟩=>thn (hv pins s1 σ H1 _ I1 q1) fun w2 s2 ⟨y,H2,I2,ry,q2⟩=>
  thn (hr pins s2 σ H2 _ I2 q2) fun ws s3 ⟨ps,H3,I3,rel,q3⟩=>⟨(x,y)::ps,H3,I3,.cons ⟨rx,ry⟩ rel,q3⟩)
def Z2z (kvs more:List (Key×V)):List (Key×V):=more.foldl (fun acc kv=>putK acc kv.1 kv.2) kvs
theorem KV.merge:∀ {more:List (Key×V)} {rs:List (Key×Value)} {kvs:List (Key×V)} {vs:List (Key×Value)},KV more rs→KV kvs vs→KV (Z2z kvs more) (merged vs rs):=by
 intro more rs kvs vs r
 unfold KV at r
 induction r generalizing kvs vs with
 | nil=>intro q; exact q
 | @cons p q ps qs h t ih=>
  intro r0
  have e:KV (putK kvs p.1 p.2) (stored vs q.1 q.2):=by
   have:=r0.put p.1 h.2
   rw [← h.1]; exact this
  exact ih e
theorem Z3B:∀ (more kvs:List (Key×V)),(Z2z kvs more).length≤kvs.length+more.length
 | [],kvs=>by show kvs.length≤kvs.length+0; omega
 | p::r,kvs=>by
  have h1:=Z3B r (putK kvs p.1 p.2)
  have h2:=Z2j kvs p.1 p.2
  show (Z2z (putK kvs p.1 p.2) r).length≤_
  rw [List.length_cons]; omega
theorem Z4T {P:Program} {w:World}:∀ {kvs:List (Key×V)} {ws:List (Value×Value)},VV (kvs.map fun kv=>(kV kv.1,kv.2)) ws→∃ rs,Carries (Z0Z P w) ws rs∧KV kvs rs
 | [],_,r=>by rw [List.map_nil] at r; cases r; exact ⟨[],True.intro,.nil⟩
 | p::kvs,_,r=>by
  rw [List.map_cons] at r
  cases r with
  | @cons a b as bs h t=>
   obtain ⟨rs,c,q⟩:=Z4T (P:=P) (w:=w) t
   obtain ⟨b1,b2⟩:=b
   exact ⟨(p.1,b2)::rs,⟨Z6x h.1,rfl,c⟩,.cons ⟨rfl,h.2⟩ q⟩
def J4U (trs:List (TE×TE)):TE:=fun σ H Q=>∀ p,H p=none→Z4j trs σ (upd H p (.dK [])) fun ps H2=>H2 p=some (.dK [])∧∃ kvs:List (Key×V),ps=kvs.map (fun kv=>(kV kv.1,kv.2))∧kvs.length≤15∧Q (.ref p) (upd H2 p (.dK (Z2z [] kvs)))
theorem Z8N {X:Cx} {pos:Pos} {keys:List (Option Expr)} {values:List Expr} {trs:List (TE×TE)} (h:PPs X pos keys values trs) (hall:keys.all (·.isSome)=true) (hl:keys.length=values.length) (h0:keys≠[])
  (h15:keys.length≤15):PE X (.Dict keys values pos) (J4U trs):=by
 intro pins s σ H Q I q
 have hn:=I.hok.fresh (Nat.le_refl s.heap.objs.size)
 have I1:=I.laid (a:=s.heap.objs.size) (o:=.dK []) (h':=s.heap.push { cls:=.type "dict",data:=.dict #[] }) (t':=s.toks) (fun _ _ q=>Heap.get?_push_of_some _ q) (Nat.le_refl _) (Z7g s.heap I.big)
 refine wpAny_Dict_walk (knd:=Z0Z X.prog X.w) hall hl h0 h15 (thn (h pins _ σ _ _ I1 (q _ hn)) fun ws s2 hz_=>?_)
 obtain ⟨ps,H2,I2,rel,e,kvs,ep,lk,q2⟩:=hz_
 subst ep
 obtain ⟨rs,c,rk⟩:=Z4T (P:=X.prog) (w:=X.w) rel
 obtain ⟨z,hd,vs0,r0,dd⟩:=J3G I2.hok e
 cases r0
 refine ⟨rs,c,dd,fun h' dd' hs=>⟨.ref s.heap.objs.size,_,?_,rfl,q2⟩⟩
 have hz:(Z2z [] kvs).length≤sizeLine:=by
  have h1:=Z3B kvs []
  rw [List.length_nil] at h1
  rw [sizeLine_eq]; omega
 have he:∃ q,h'.get? s.heap.objs.size=some q:=let ⟨q,_,_,hq,_⟩:=dd'; ⟨q,hq⟩
 exact Z6E I2 (by rw [e]; exact True.intro) hs he (J1P hz hd (rk.merge .nil) dd')
structure M1 (X:Cx) (o:Expr) (m:Str) (apos:Pos) (e:Expr) (cpos:Pos):Prop where
 base:attributeBase o m X.env (eval o X.env)=eval o X.env
 few:((backTo cpos (starEach [e] X.env)).all (fun x=>!x.1)&&(backToKw cpos (keywordEach [] X.env)).all (fun x=>x.1.isSome)
  && decide (([e]:List Expr).length+([]:List Keyword).length+(if ([]:List Keyword).isEmpty then 0 else 1) < 30))=true
 line:(apos.endLine == cpos.line)=true
 trees:backTo cpos (starEach [e] X.env)=[(false,eval e X.env)]
structure M2 (X:Cx) (o:Expr) (m:Str) (apos:Pos) (e f:Expr) (cpos:Pos):Prop where
 base:attributeBase o m X.env (eval o X.env)=eval o X.env
 few:((backTo cpos (starEach [e,f] X.env)).all (fun x=>!x.1)&&(backToKw cpos (keywordEach [] X.env)).all (fun x=>x.1.isSome)
  && decide (([e,f]:List Expr).length+([]:List Keyword).length+(if ([]:List Keyword).isEmpty then 0 else 1) < 30))=true
 line:(apos.endLine == cpos.line)=true
 trees:backTo cpos (starEach [e,f] X.env)=[(false,eval e X.env),(false,eval f X.env)]
def IsD (H:Hp) (a:Addr):Prop:=(∃ kvs,Rd H a (.dK kvs))∨∃ kvs,Rd H a (.dT kvs)
theorem J4v {X:Cx} {pins:List (Addr×Obj)} {σ:St} {H:Hp} {s:Shared} {a:Addr} (I:Inv X pins σ H s) (d:IsD H a) :
  s.TypeIs (.ref a) "dict"∧(∀ b,Value.ref a=.ref b→∃ ob,s.heap.get? b=some ob∧ob.dict=none)∧(a == sysModules)=false:=by
 rcases d with ⟨kvs,e⟩ | ⟨kvs,e⟩
 ·obtain ⟨_,hd,vs,_,dd⟩:=Z9W I.hok e
  refine ⟨dd.typeIs,fun b q=>?_,hd⟩
  cases q
  obtain ⟨ob,_,_,h1,h2,_⟩:=dd
  exact ⟨ob,h1,h2.2.1⟩
 ·obtain ⟨_,hd,xs,_,dd⟩:=Z8O I.hok e
  refine ⟨dd.typeIs,fun b q=>?_,hd⟩
  cases q
  obtain ⟨ob,_,_,h1,h2,_⟩:=dd
  exact ⟨ob,h1,h2.2.1⟩
section
variable {X:Cx} {pins:List (Addr×Obj)} {σ:St} {H:Hp} {s:Shared} {a:Addr} {y d:V} {u r:Value} {o:Option V} {A:Around} {E:Value→Shared→Prop}
theorem J4S {Q:Value→Shared→Prop} (hu:A.units+1 < cLine) (I:Inv X pins σ H s) (g:DGet H a y o) (ry:RelV y u) (rd:RelV d r) (h:∀ w' s',Inv X pins σ H s'→RelV (o.getD d) w'→Q w' s') :
  wpAny (model X.prog X.w) A (call (.builtin "dict.get") [.ref a,u,r]) Q E s:=by
 rcases g with ⟨kvs,k,e,ey,l⟩ | ⟨kvs,k,b,e,ey,eb,l⟩
 ·subst ey
  obtain ⟨z,hd,vs,rel,dd⟩:=Z9W I.hok e
  refine call_meetsIn PySem.F.slot_dict_get dd.typeIs PySem.F.entry_dict_get (PySem.F.args_dict_get_3 _ _ _) (meets_dict_get_default (Z0Z X.prog X.w) a (Z6x ry) hd r) ⟨_,dd.mapOf,h _ _ (I.tok _) ?_⟩
  rw [l]
  exact (rel.val k).getD rd
 ·subst ey
  cases (show u=Value.ref b from ry)
  obtain ⟨z,hd,xs,rel,dd⟩:=Z8O I.hok e
  refine call_meetsIn PySem.F.slot_dict_get dd.typeIs PySem.F.entry_dict_get (PySem.F.args_dict_get_3 _ _ _) (meetsH_dict_get_default (tupleKind (Z0Z X.prog X.w)) a b hd r) ⟨tupleKind_room_in1 hu,k,xs,Z6G I.hok eb,dd,h _ _ (I.tok _) ?_⟩
  rw [l]
  exact (rel.val k).getD rd
end
def J1Q (td ty tx:TE):TE:=fun σ H Q=>td σ H fun x H1=>∃ a,x=.ref a∧IsD H1 a∧ty σ H1 fun y H2=>tx σ H2 fun z H3=>∃ o,DGet H3 a y o∧Q (o.getD z) H3
section
variable {X:Cx} {o e f:Expr} {apos cpos:Pos} {td ty tx:TE}
theorem J0g (hu:X.A.units+1 < cLine) (ho:PE X o td) (he:PE X e ty) (hf:PE X f tx) (m:M2 X o "get" apos e f cpos):PE X (.Call (.Attribute o "get" apos) [e,f] [] cpos) (J1Q td ty tx):=by
 intro pins s σ H Q I h
 refine wpAny_Call_method m.base m.few m.line PySem.F.plainAttrs_dict PySem.F.slot_dict_get PySem.F.type_dict_get (thn (ho pins s σ H _ I h) fun u s1 hz_=>?_)
 obtain ⟨x,H1,I1,rx,a,ex,d,q1⟩:=hz_
 subst ex
 obtain rfl:u=Value.ref a:=rx
 obtain ⟨t1,t2,_⟩:=J4v I1 d
 refine ⟨t1,t2,?_⟩
 rw [m.trees]
 refine Calls.callWith_builtin rfl (Calls.evalArgs_plain (Calls.spliced_cons (thn (he pins s1 σ H1 _ I1 q1) fun iv s2 ⟨y,H2,I2,ry,q2⟩=>
  Calls.spliced_cons (thn (hf pins s2 σ H2 _ I2 q2) fun fv s3 ⟨z,H3,I3,rz,ov,g,q3⟩=>Calls.spliced_nil ?_))))
 exact J4S hu I3 g ry rz fun w' s4 I4 rw'=>⟨_,H3,I4,rw',q3⟩
end
section
variable {X:Cx} {pins:List (Addr×Obj)} {σ:St} {H:Hp} {s:Shared} {a:Addr} {kvs:List (Key×V)} {A:Around} {E:Value→Shared→Prop}
end
section
variable {X:Cx} {pins:List (Addr×Obj)} {σ:St} {H:Hp} {s:Shared} {a:Addr} {y:V} {u:Value} {A:Around} {E:Value→Shared→Prop}
end
end L2
namespace L2
open PySem PySem.Spec PyProof.Rows
section
variable {X:Cx}
end
section
variable {κ:Type} [DecidableEq κ]
end
end L2
end
section
namespace L2
open PySem PySem.Spec PyProof.Rows
section
variable {X:Cx} {N:List Str} {nl:List (Option Nat)} {scope:Scope} {cl:List (Str×Addr)} {elt tg iter:Expr} {pos pos' spos:Pos} {wi:TI} {g:TG} {tc:TT} {te:TE} {i:Nat} {x:Str}
theorem Z5R {pins:List (Addr×Obj)} {σ:St} {Dd:Ends} (hN:X.N.Nodup) (hi:X.N[i]?=some x) (hk:X.env.scope.names.lookup x=some .local) (D C:Addr) (s' s2:Shared) (fp:List Addr) (σ':St) (H' H2:Hp)
  (I2:Inv X pins σ H2 s2) (f2:∀ b∈fp,FpOk X pins H2 b) (hC:s2.heap.objs.size≤C) (J:Inv (X.block N scope cl C fp s2 H2) [] σ' H' s') (q:Dd.nx (σ.set i (some (.ref D))) H') :
  compPost (model X.prog X.w) X.A X.xe (some (assign (.Name x pos') X.env)) (fun _ s3=>SP X pins Dd .next s3) (.ref D) C (.ok .next) s':=by
 have I3:Inv X pins σ H' s':=Z5w (h2:=s'.heap) I2 f2 hC J fun b o _ e=>e
 have ne:∀ b o,s2.heap.get? b=some o→b≠C:=fun b o e=>Nat.ne_of_lt (Nat.lt_of_lt_of_le (Heap.lt_size e) hC)
 have neL:C≠X.env.locals:=fun z=>by
  obtain ⟨m,⟨o,_,_,ho,_⟩,_⟩:=I2.loc
  exact ne _ o ho z.symm
 obtain ⟨m,hn,_⟩:=J.loc
 show wpAny _ _ (assign (.Name x pos') X.env (.ref D)) _ _ _
 have e:assign (.Name x pos') X.env (.ref D)=(do standAt pos'; bindName X.env x (.ref D)):=by rfl
 rw [e]
 refine wpAny_bind (wpAny_standAt (wpAny_bindName ?_))
 refine Z5Y (v:=.ref D) I3 hN hi (.inl hk) rfl (fun s4 I4 ⟨a,sb,ha⟩=>?_) (.inr hk)
 have hCa:C≠a:=by
  rcases ha with z | z
  ·rw [z]; exact neL
  ·obtain ⟨v,o,ho,_⟩:=I2.cell x a z
   exact fun z2=>ne a o ho z2.symm
 refine ⟨m,hn.sameBut sb hCa,fun h' sb'=>⟨_,H',?_,q⟩⟩
 refine I4.turned (t':=s4.toks) (it:=C) (fun b o hb e=>sb'.extBut b o hb e) J.free neL (.inr (Nat.le_trans I2.sz hC)) (fun y c e z=>?_) fun p hp z=>?_
 ·obtain ⟨v,o,ho,_⟩:=I2.cell y c e
  exact ne c o ho z
 ·exact ne p.1 _ (I2.pin p hp).1 z
def J2U (i:Nat) (t:TE):TS:=fun D σ H=>t σ H fun v H'=>D.nx (σ.set i (some v)) H'
theorem Z4f (hcalm:X.calm=true) (hN:X.N.Nodup) (hi:X.N[i]?=some x) (hk:X.env.scope.names.lookup x=some .local) (B:BlockOk X N nl scope cl) (hit:PI X tg iter wi) (hg:∀ C fp s H,PG (X.block N scope cl C fp s H) tg g) (he:∀ C fp s H,PE (X.block N scope cl C fp s H) elt te)
  (hs:∀ x,foldedSetIterable iter X.env x=pure x:=by intro _; rfl) (hsw:swapsWith (.ListComp elt [⟨tg,iter,[],0⟩] scope pos) (some (.Name x pos')) spos.line X.env=pure true:=by rfl) :
  PS X (.Assign [.Name x pos'] (.ListComp elt [⟨tg,iter,[],0⟩] scope pos) spos) (J2U i (Z7J wi nl g Z3S te)):=by
 intro pins s σ H D I h
 rw [exec_Assign_Name_used _ _ _ _ hsw]
 refine wpAny_bind (wpAny_standAt (wpAny_bind ?_))
 show wpAny _ _ (evalThenUse (.ListComp elt [⟨tg,iter,[],0⟩] scope pos) X.env _) _ _ _
 unfold evalThenUse
 refine wpAny_bind ?_
 exact thn (Z3q (Q:=fun v H'=>D.nx (σ.set i (some v)) H') (tst:=fun _=>pure true) (Q':=fun _ s3=>SP X pins D .next s3) hcalm B hit hg (fun _ _ _ _=>Z8t) he Z6W hs I h (fun D' C s' s2 fp σ' H' H2 I2 f2 hC J q=>Z5R hN hi hk D' C s' s2 fp σ' H' H2 I2 f2 hC J q) _) fun _ s3 z=>wpAny_pure (wpAny_pure z)
theorem Z2k {c:Expr} (hcalm:X.calm=true) (hN:X.N.Nodup) (hi:X.N[i]?=some x) (hk:X.env.scope.names.lookup x=some .local) (B:BlockOk X N nl scope cl) (hit:PI X tg iter wi) (hg:∀ C fp s H,PG (X.block N scope cl C fp s H) tg g) (hc:∀ C fp s H,PT (X.block N scope cl C fp s H) c tc) (he:∀ C fp s H,PE (X.block N scope cl C fp s H) elt te)
  (hs:∀ x,foldedSetIterable iter X.env x=pure x:=by intro _; rfl) (hsw:swapsWith (.ListComp elt [⟨tg,iter,[c],0⟩] scope pos) (some (.Name x pos')) spos.line X.env=pure true:=by rfl) :
  PS X (.Assign [.Name x pos'] (.ListComp elt [⟨tg,iter,[c],0⟩] scope pos) spos) (J2U i (Z7J wi nl g tc te)):=by
 intro pins s σ H D I h
 rw [exec_Assign_Name_used _ _ _ _ hsw]
 refine wpAny_bind (wpAny_standAt (wpAny_bind ?_))
 show wpAny _ _ (evalThenUse (.ListComp elt [⟨tg,iter,[c],0⟩] scope pos) X.env _) _ _ _
 unfold evalThenUse
 refine wpAny_bind ?_
 exact thn (Z3q (Q:=fun v H'=>D.nx (σ.set i (some v)) H') (tst:=fun env=>isTrue c env (eval c env)) (Q':=fun _ s3=>SP X pins D .next s3) hcalm B hit hg (fun C fp s H=>J1y (hc C fp s H)) he Z7p hs I h (fun D' C s' s2 fp σ' H' H2 I2 f2 hC J q=>Z5R hN hi hk D' C s' s2 fp σ' H' H2 I2 f2 hC J q) _) fun _ s3 z=>wpAny_pure (wpAny_pure z)
end
end L2
end
section
namespace L2
open PySem PySem.Spec PyProof.Rows
structure Z8J (K:W.Frag) (mg:Str→Option Value) (cn:Str) (C:Addr):Prop where
 mgC:mg cn=some (.ref C)
 cl:Cls K C
 mks:W.makesIn K C=true
 kp:W.keepIn K (.ref C)=true
structure MFn (K:W.Frag) (C:Addr) (m qual:Str) (st:Stmt):Prop where
 ex:∃ f fd,Fun K m qual st f fd∧Meth K C m f
structure HasM (P:Program) (w:World) (K:W.Frag) (mg:Str→Option Value) (base:Heap) (k:Nat) (C:Addr) (m:Str) (ps:List Str) (sp:Sp):Prop where
 ex:∃ f fd,FnOk P w K mg base CX0 k f fd ps sp∧Binds K fd ps []∧Meth K C m f
section
variable {P:Program} {w:World} {K:W.Frag} {mg:Str→Option Value} {base:Heap}
theorem J1F {h:Heap} {cn:Str} {C:Addr} (X:K.In h) (G:h.Ns mainGlobals mg) (a:W.nsIn K mainGlobals cn=some (some (.ref C))) (pg:W.plainGet K C Str.empty=true) (hd:W.hasDictIn K C=true) (po:W.plainOver K C=true)
  (sa:W.findIn K (.ref C) "__setattr__"=some (some (.builtin "object.__setattr__"))) (mk:W.makesIn K C=true) (kp:W.keepIn K (.ref C)=true):Z8J K mg cn C:=⟨W.mg_of X G a,⟨pg,hd,po,sa⟩,mk,kp⟩
theorem Z1d {C:Addr} {f:Str} (h:W.findIn K (.ref C) f=some none):NoAttr K C f:=h
theorem Z1y {C:Addr} {m qual:Str} {st:Stmt} {f:Addr} {oc:Value} {od an:Option Addr} {osl:Array (Option Value)} {kV doc pm cdv ct:Value} (a:W.findIn K (.ref C) m=some (some (.ref f))) (i:W.isFn K (.ref f)=true)
  (l:K.lookup f=some ⟨oc,od,.func (W.fnOf m qual (Z1p st) (Z1b st) (Z0j st) .none kV doc pm an cdv ct),osl⟩) (c:W.codeIn K cdv qual=true) (k:W.keepIn K (.ref f)=true):MFn K C m qual st:=
 ⟨f,_,J1r l c k,⟨a,i,k⟩⟩
theorem HasM.of {C:Addr} {m qual:Str} {st:Stmt} {N ps:List Str} {k:Nat} {sp:Sp} (F:MFn K C m qual st) (S:Z0s N ps (Z0j st))
  (hb:∀ (kV doc pm:Value) (an:Option Addr) (cdv ct:Value) (us:List Value),us.length=ps.length→bindArgs (W.fnOf m qual (Z1p st) (Z1b st) (Z0j st) .none kV doc pm an cdv ct) ⟨us,[]⟩=pure (ps.zip us))
  (len:∀ vs H Q E,sp vs H Q E→vs.length=ps.length)
  (hbody:∀ (f:Addr) (cdv:Value) (A:Around) (outer:List Env) (s:Shared) (H:Hp) (vs:List V) (Q:VK) (E:XK),Room k (A.deeper (envOfC qual (Z0j st) s.heap.objs.size f cdv))→sp vs H Q E →
   ∃ t,PSs (cxOf CX0 P w K mg base N qual (Z0j st) f cdv A outer s H E).nox (Z1b st) t∧t { nx:=fun _ H'=>Q .non H',rt:=Q } (Z4i N vs) H):HasM P w K mg base (k+1) C m ps sp:=by
 obtain ⟨f,fd,F,mm⟩:=F.ex
 exact ⟨f,fd,F.ok S len fun cdv=>hbody f cdv,F.binds hb,mm⟩
end
section
variable {X:Cx} {x m:Str} {ps:List Str} {sp:Sp} {k j:Nat} {C:Addr} {o e:Expr} {es:List Expr} {ta:TE} {t:TA} {p pos apos:Pos}
theorem J2m {pl:Sem Bool} (he:PE X o ta) (c:Cls X.K C) (h:HasM X.prog X.w X.K X.mg X.base k C m ps sp) (hr:Room j X.A) (hk:k≤j) (ha:PA X (e::es) t)
  (hst:starEach (e::es) X.env=(false,eval e X.env)::starEach es X.env:=by rfl) (hpl:(backTo pos (starEach es X.env)).any (·.1)=false:=by rfl)
  (ht:eval (.Call (.Attribute o m apos) (e::es) [] pos) X.env=(do
   let ov ← eval o X.env
   standAt apos.atName
   let (f,first) ← holding [ov] (getMethod ov m pl)
   callWith pos f first (backTo pos (starEach (e::es) X.env)) (backToKw pos (keywordEach [] X.env))):=by rfl) :
  PE X (.Call (.Attribute o m apos) (e::es) [] pos) (Z9A C m sp [] E0 ta t):=by
 obtain ⟨f,fd,F,b,mm⟩:=h.ex
 exact J2M he c mm F (hr.mono hk) b .nil Z9j ha hst hpl ht
theorem J0V {pl:Sem Bool} (he:PE X o ta) (c:Cls X.K C) (h:HasM X.prog X.w X.K X.mg X.base k C m ps sp) (hr:Room j X.A) (hk:k≤j)
  (ht:eval (.Call (.Attribute o m apos) [] [] pos) X.env=(do
   let ov ← eval o X.env
   standAt apos.atName
   let (f,first) ← holding [ov] (getMethod ov m pl)
   callWith pos f first (backTo pos (starEach [] X.env)) (backToKw pos (keywordEach [] X.env))):=by rfl) :
  PE X (.Call (.Attribute o m apos) [] [] pos) (Z9A C m sp [] E0 ta tNil):=by
 obtain ⟨f,fd,F,b,mm⟩:=h.ex
 exact J0M he c mm F (hr.mono hk) b .nil Z9j ht
theorem J2x (c:Z8J X.K X.mg x C) (h:HasM X.prog X.w X.K X.mg X.base k C "__init__" ps sp) (hr:Room j X.A) (hk:k+1≤j) (hg:Gl X x) (hdb:(x == ("__debug__":Str))=false:=by decide):PE X (.Call (.Name x p) [] [] pos) (J2X C sp [] E0 tNil):=by
 obtain ⟨f,fd,F,b,mm⟩:=h.ex
 exact J1e ⟨c.mks,mm.at_,mm.fn,c.kp⟩ F (hr.mono hk) hg c.mgC b .nil Z9j hdb
end
end L2
end
section
namespace L2
open PySem PySem.Spec PyProof.Rows
structure MFnD (K:W.Frag) (C:Addr) (m qual:Str) (st:Stmt) (d1 d2:V):Prop where
 ex:∃ (f dA:Addr) (oc:Value) (od:Option Addr) (kV doc pm:Value) (an:Option Addr) (cdv ct:Value) (osl:Array (Option Value)) (o:Obj) (u1 u2:Value) (n:Nat),
  K.lookup f=some ⟨oc,od,.func (W.fnOf m qual (Z1p st) (Z1b st) (Z0j st) (.ref dA) kV doc pm an cdv ct),osl⟩∧W.codeIn K cdv qual=true∧Meth K C m f ∧
  K.lookup dA=some o∧o.data=.seq #[u1,u2] n∧RelV d1 u1∧RelV d2 u2
structure HasD (P:Program) (w:World) (K:W.Frag) (mg:Str→Option Value) (base:Heap) (k:Nat) (C:Addr) (m:Str) (ps:List Str) (sp:Sp) (ks:List Str) (gV:List V→List V→List V):Prop where
 ex:∃ f fd g,FnOk P w K mg base CX0 k f fd ps sp∧Z9G K fd ps ks g gV∧Meth K C m f
def Z9Y (C:Addr) (sp:Sp) (gV:List V→List V→List V) (E:XK) (t tk:TA):TE:=fun σ H Q=>t σ H fun vs H1=>tk σ H1 fun zs H2=>∀ x dx,H2 x=none→H2 dx=none→dx≠x →
 sp (gV (.ref x::vs) zs) (upd (upd H2 dx (.own x)) x (.ins C dx [])) (fun v H3=>v=.non∧Q (.ref x) H3) E
theorem J4n {C:Addr} {sp:Sp} {gV:List V→List V→List V} {E:XK} {t tk:TA} {σ:St} {H:Hp} {Q:VK}:Z9Y C sp gV E t tk σ H Q=(t σ H fun vs H1=>tk σ H1 fun zs H2=>∀ x dx,H2 x=none→H2 dx=none→dx≠x →
 sp (gV (.ref x::vs) zs) (upd (upd H2 dx (.own x)) x (.ins C dx [])) (fun v H3=>v=.non∧Q (.ref x) H3) E):=rfl
section
variable {X:Cx} {CX:CXT} {k:Nat} {f C:Addr} {fd:FuncData} {ps ks:List Str} {sp:Sp} {E:XK} {x m:Str} {p pos apos kpos:Pos} {e o:Expr} {es:List Expr} {kws:List Keyword} {te ta:TE} {t tk:TA} {nm:Option Str}
variable {g:List Value→List Value→List Value} {gV:List V→List V→List V}
theorem Z9F {pins:List (Addr×Obj)} {σ:St} {H:Hp} {s:Shared} {Q:VK} {us ws:List Value} {vs zs:List V} (M:Mk X.K C f) (F:FnOk X.prog X.w X.K X.mg X.base CX k f fd ps sp) (hr:Room (k+1) X.A) (hb:Z9G X.K fd ps ks g gV)
  (hx:Z3x CX X E) (I:Inv X pins σ H s) (r:Vals vs us) (rz:Vals zs ws)
  (h:∀ x dx,H x=none→H dx=none→dx≠x→sp (gV (.ref x::vs) zs) (upd (upd H dx (.own x)) x (.ins C dx [])) (fun v H2=>v=.non∧Q (.ref x) H2) E) :
  wpAny (model X.prog X.w) X.A (call (.ref C) us (ks.zip ws)) (EP X pins σ Q) X.xe s:=by
 have hq:=h (s.heap.objs.size+1) s.heap.objs.size (I.hok.fresh (Nat.le_succ _)) (I.hok.fresh (Nat.le_refl _)) (Nat.ne_of_lt (Nat.lt_succ_self _))
 have I2:=Inv.made (C:=C) I
 have r2:=hb.rel (.cons (show RelV (V.ref (s.heap.objs.size+1)) (Value.ref (s.heap.objs.size+1)) from rfl) r) rz
 have hl:(g (Value.ref (s.heap.objs.size+1)::us) ws).length=ps.length:=by
  rw [← r2.length]; exact F.len _ _ _ _ hq
 refine wpAny_call (Z7A (f:=f) I.kIn M.makes M.init (beq_iff_eq.mp M.fn) (codeAny_mono (F.run _ X.stack _ _ ⟨Value.ref (s.heap.objs.size+1)::us,ks.zip ws⟩ (g (Value.ref (s.heap.objs.size+1)::us) ws) _ _ E (hr.make C us (ks.zip ws))
  (I2.env0.make C us (ks.zip ws)) (hb.to _ (Value.ref (s.heap.objs.size+1)::us) ws I2.kIn hl) r2 hq) fun r s' hq'=>?_))
 cases r with
 | error e=>exact hx pins σ _ _ e s' I2 hq'
 | ok fl=>
  cases fl with
  | ret u=>
   obtain ⟨v,H',I3,rv,ev,q3⟩:=I2.after hq'
   subst ev
   exact ⟨rv,⟨V.ref (s.heap.objs.size+1),H',I3,rfl,q3⟩⟩
  | next=>exact False.elim hq'
  | brk=>exact False.elim hq'
  | cont=>exact False.elim hq'
theorem J0U (M:Mk X.K C f) (F:FnOk X.prog X.w X.K X.mg X.base CX k f fd ps sp) (hr:Room (k+1) X.A) (hg:Gl X x) (hm:X.mg x=some (.ref C)) (hb:Z9G X.K fd ps ks g gV) (hx:Z3x CX X E)
  (ha:PA X (e::es) t) (hkw:PK X kws tk) (hall:(backToKw pos (keywordEach kws X.env)).all (·.1.isSome)=true:=by rfl) (hks:(backToKw pos (keywordEach kws X.env)).filterMap (·.1)=ks:=by rfl)
  (hdb:(x == ("__debug__":Str))=false:=by decide) (he:starEach (e::es) X.env=(false,eval e X.env)::starEach es X.env:=by rfl)
  (hpl:((backTo pos (starEach (e::es) X.env)).any (·.1) || (backToKw pos (keywordEach kws X.env)).any (·.1.isNone))=false:=by rfl) :
  PE X (.Call (.Name x p) (e::es) kws pos) (Z9Y C sp gV E t tk):=by
 intro pins s σ H Q I h
 refine wpAny_Call_Name_kw (Z5p I hg hm ?_ hdb)
 refine W.callWith_KW (h₀:=X.base) I.ok.mod.kin M.kp hall (thn (ha pos pins s σ H _ I h) fun us s1 ⟨vs,H1,I1,r,q⟩=>?_) hpl he
 refine thn (hkw pos pins s1 σ H1 _ I1 q) fun ws s2 ⟨zs,H2,I2,rz,q2⟩=>⟨I2.kIn,?_⟩
 rw [hks]
 exact Z9F M F hr hb hx I2 r rz q2
theorem J3n {j:Nat} (c:Z8J X.K X.mg x C) (h:HasD X.prog X.w X.K X.mg X.base k C "__init__" ps sp ks gV) (hr:Room j X.A) (hk:k+1≤j) (hg:Gl X x) (ha:PA X (e::es) t) (hkw:PK X kws tk) (hall:(backToKw pos (keywordEach kws X.env)).all (·.1.isSome)=true:=by rfl) (hks:(backToKw pos (keywordEach kws X.env)).filterMap (·.1)=ks:=by rfl)
  (hdb:(x == ("__debug__":Str))=false:=by decide) (he:starEach (e::es) X.env=(false,eval e X.env)::starEach es X.env:=by rfl)
  (hpl:((backTo pos (starEach (e::es) X.env)).any (·.1) || (backToKw pos (keywordEach kws X.env)).any (·.1.isNone))=false:=by rfl) :
  PE X (.Call (.Name x p) (e::es) kws pos) (Z9Y C sp gV E0 t tk):=by
 obtain ⟨f,fd,g,F,b,mm⟩:=h.ex
 exact J0U ⟨c.mks,mm.at_,mm.fn,c.kp⟩ F (hr.mono hk) hg c.mgC b Z9j ha hkw hall hks hdb he hpl
end
def Z3f {α:Type} (np nk:Nat) (tl:List α) (us ws:List α):List α:=if us.length=np∧ws.length=nk then us++ws++tl else []
theorem Z8P {α:Type} {np nk:Nat} {tl us ws:List α} (h:us.length=np) (h':ws.length=nk):Z3f np nk tl us ws=us++ws++tl:=if_pos ⟨h,h'⟩
theorem Z7T {np nk:Nat} {tlV:List V} {tl:List Value} (ht:Vals tlV tl) {vs zs:List V} {us ws:List Value} (h:Vals vs us) (h':Vals zs ws):Vals (Z3f np nk tlV vs zs) (Z3f np nk tl us ws):=by
 unfold Z3f
 rw [h.length,h'.length]
 split
 ·exact (h.append h').append ht
 ·exact .nil
section
variable {P:Program} {w:World} {K:W.Frag} {mg:Str→Option Value} {base:Heap}
theorem HasD.of {C:Addr} {m qual:Str} {st:Stmt} {N ps ks:List Str} {k:Nat} {sp:Sp} {d1 d2:V} (np nk nd:Nat) (F:MFnD K C m qual st d1 d2) (S:Z0s N ps (Z0j st)) (hp:0 < ps.length)
  (hb:∀ (kV doc pm:Value) (an:Option Addr) (cdv ct:Value) (dA:Addr) (u1 u2:Value) (us ws:List Value),us.length=np→ws.length=nk →
   ∃ k,bindArgs (W.fnOf m qual (Z1p st) (Z1b st) (Z0j st) (.ref dA) kV doc pm an cdv ct) ⟨us,ks.zip ws⟩=seqItems? (.ref dA) >>= k∧k (some #[u1,u2])=pure (ps.zip (us++ws++[u1,u2].drop (2 - nd))))
  (len:∀ vs H Q E,sp vs H Q E→vs.length=ps.length)
  (hbody:∀ (f:Addr) (cdv:Value) (A:Around) (outer:List Env) (s:Shared) (H:Hp) (vs:List V) (Q:VK) (E:XK),Room k (A.deeper (envOfC qual (Z0j st) s.heap.objs.size f cdv))→sp vs H Q E →
   ∃ t,PSs (cxOf CX0 P w K mg base N qual (Z0j st) f cdv A outer s H E).nox (Z1b st) t∧t { nx:=fun _ H'=>Q .non H',rt:=Q } (Z4i N vs) H):HasD P w K mg base (k+1) C m ps sp ks (Z3f np nk ([d1,d2].drop (2 - nd))):=by
 obtain ⟨f,dA,oc,od,kV,doc,pm,an,cdv,ct,osl,o,u1,u2,n,lk,hcd,mm,lo,ho,r1,r2⟩:=F.ex
 refine ⟨f,_,Z3f np nk ([u1,u2].drop (2 - nd)),J3z lk hcd S len fun A outer s H vs Q E hr hsp=>?_,⟨fun s us ws hK hl=>?_,fun a b=>Z7T (Vals.drop _ (.cons r1 (.cons r2 .nil))) a b⟩,mm⟩
 ·obtain ⟨t,h,q⟩:=hbody f cdv A outer s H vs Q E hr hsp
  exact ⟨t,h.nox,q⟩
 ·unfold Z3f at hl ⊢
  by_cases e:us.length=np∧ws.length=nk
  ·rw [if_pos e]
   obtain ⟨kk,h1,h2⟩:=hb kV doc pm an cdv ct dA u1 u2 us ws e.1 e.2
   exact BindsTo.of_defaults rfl (hK _ _ lo) ho h1 h2
  ·rw [if_neg e] at hl
   simp at hl
   omega
theorem J2N {C:Addr} {m qual:Str} {st:Stmt} {f dA:Addr} {oc:Value} {od an:Option Addr} {osl:Array (Option Value)} {kV doc pm cdv ct:Value} {o:Obj} {u1 u2:Value} {n:Nat} {d1 d2:V} (a:W.findIn K (.ref C) m=some (some (.ref f))) (i:W.isFn K (.ref f)=true)
  (l:K.lookup f=some ⟨oc,od,.func (W.fnOf m qual (Z1p st) (Z1b st) (Z0j st) (.ref dA) kV doc pm an cdv ct),osl⟩) (c:W.codeIn K cdv qual=true) (k:W.keepIn K (.ref f)=true)
  (lo:K.lookup dA=some o) (ho:o.data=.seq #[u1,u2] n) (r1:RelV d1 u1) (r2:RelV d2 u2):MFnD K C m qual st d1 d2:=
 ⟨f,dA,oc,od,kV,doc,pm,an,cdv,ct,osl,o,u1,u2,n,l,c,⟨a,i,k⟩,lo,ho,r1,r2⟩
end
end L2
end
section
namespace L2
open PySem PySem.Spec PyProof.Rows PySem.SeqAt
def mono (t:TE):TE:=fun σ H Q=>∃ Q0:VK,t σ H Q0∧∀ v H',Q0 v H'→Q v H'
section
variable {X:Cx} {o e value:Expr} {f:Str} {pos pos' tpos:Pos} {ta tv:TE}
theorem PE.mono {t:TE} (h:PE X e t):PE X e (mono t):=fun pins s σ H Q I ⟨Q0,h0,i⟩=>thn (h pins s σ H Q0 I h0) fun u s1 ⟨x,H1,I1,r,q⟩=>⟨x,H1,I1,r,i _ _ q⟩
def opt2 (o:Option (Option V)) (R:V→Prop):Prop:=match o with
 | some (some v)=>R v
 | _=>False
theorem J4T {v:V} {R:V→Prop}:opt2 (some (some v)) R=R v:=rfl
def Z7Q (i:Nat):TE:=fun σ H Q=>opt2 σ[i]? fun v=>Q v H
theorem J5i {i:Nat} {σ:St} {H:Hp} {Q:VK}:Z7Q i σ H Q=opt2 σ[i]? fun v=>Q v H:=rfl
theorem J2E {o:Option (Option V)} {R:V→Prop} (h:opt2 o R):∃ v,o=some (some v)∧R v:=by
 unfold opt2 at h
 split at h
 ·exact ⟨_,rfl,h⟩
 ·cases h
theorem J2G {i:Nat} {x:Str} (hN:X.N[i]?=some x) (hv:Vis X.env.scope x) (hd:(x == ("__debug__":Str))=false:=by decide) (hcd:(x == ("__classdict__":Str))=false:=by decide):PE X (.Name x pos) (Z7Q i):=
 fun pins s σ H Q I h=>J1w hN hv hd hcd pins s σ H Q I (J2E h)
theorem pvF (i:Nat) {x:Str} (hN:X.N[i]?=some x:=by rfl) (hv:Vis X.env.scope x:=by first | exact Or.inl rfl | exact Or.inr (Or.inl rfl) | exact Or.inr (Or.inr rfl)) (hd:(x == ("__debug__":Str))=false:=by decide)
  (hcd:(x == ("__classdict__":Str))=false:=by decide):PE X (.Name x pos) (Z7Q i):=J2G hN hv hd hcd
inductive Fld (K:W.Frag) (f:Str) (a:Addr) (H:Hp) (Q:VK):Prop
 | mk (C dx:Addr) (fs:List (Str×V)) (h:H a=some (.ins C dx fs)) (cl:Cls K C) (n:NoAttr K C f) (v:V) (l:fs.lookup f=some v) (q:Q v H):Fld K f a H Q
def J3E (K:W.Frag) (ta:TE) (f:Str):TE:=fun σ H Q=>ta σ H fun x H1=>∃ a,x=.ref a∧Fld K f a H1 Q
theorem J5w {K:W.Frag} {σ:St} {H:Hp} {Q:VK}:J3E K ta f σ H Q=ta σ H fun x H1=>∃ a,x=.ref a∧Fld K f a H1 Q:=rfl
theorem Z0H (he:PE X e ta) (hb:attributeBase e f X.env (eval e X.env)=eval e X.env):PE X (.Attribute e f pos) (J3E X.K ta f):=by
 intro pins s σ H Q I h
 refine J2d hb (thn (he pins s σ H _ I h) fun u s1 hz=>?_)
 obtain ⟨x,H1,I1,rx,a,ex,hz⟩:=hz
 obtain ⟨C,dx,fs,ea,c,n,v,l,q⟩:=hz
 subst ex
 cases (show u=Value.ref a from rx)
 exact Z4Y I1 ea c n l fun u' s2 I2 ru=>⟨v,H1,I2,ru,q⟩
inductive SFld (K:W.Frag) (f:Str) (a:Addr) (H:Hp) (R:Addr→Addr→List (Str×V)→Prop):Prop
 | mk (C dx:Addr) (fs:List (Str×V)) (h:H a=some (.ins C dx fs)) (cl:Cls K C) (n:NoAttr K C f) (l:fs.length < 1000) (r:R C dx fs):SFld K f a H R
def J3u (K:W.Frag) (ta tv:TE) (f:Str):TS:=fun D σ H=>tv σ H fun y H1=>ta σ H1 fun x H2=>∃ a,x=.ref a∧SFld K f a H2 fun C dx fs=>D.nx σ (upd H2 a (.ins C dx (putF f y fs)))
theorem J5x {K:W.Frag} {D:Ends} {σ:St} {H:Hp}:J3u K ta tv f D σ H=tv σ H fun y H1=>ta σ H1 fun x H2=>∃ a,x=.ref a∧SFld K f a H2 fun C dx fs=>D.nx σ (upd H2 a (.ins C dx (putF f y fs))):=rfl
theorem Z1w (ha:PE X o ta) (hv:PE X value tv) (hs:swapsWith value (some (.Attribute o f pos')) pos.line X.env=pure false):PS X (.Assign [.Attribute o f pos'] value pos) (J3u X.K ta tv f):=by
 intro pins s σ H D I h
 refine plainObj_wpAny_Assign_Attribute (thn (hv pins s σ H _ I h) fun u s1 ⟨y,H1,I1,ry,q⟩=>thn (ha pins s1 σ H1 _ I1 q) fun ov s2 hz=>?_) hs
 obtain ⟨x,H2,I2,rx,a,ex,hz⟩:=hz
 obtain ⟨C,dx,fs,ea,c,n,l,q2⟩:=hz
 subst ex
 cases (show ov=Value.ref a from rx)
 exact Z4Q I2 ea c n l ry fun s3 I3=>⟨σ,_,I3,q2⟩
inductive FldC (K:W.Frag) (f:Str) (a:Addr) (H:Hp) (R:Addr→V→Prop):Prop
 | mk (C dx:Addr) (fs:List (Str×V)) (h:H a=some (.ins C dx fs)) (cl:Cls K C) (n:NoAttr K C f) (v:V) (l:fs.lookup f=some v) (q:R C v):FldC K f a H R
inductive InsC (C a:Addr) (H:Hp) (R:Addr→List (Str×V)→Prop):Prop
 | mk (dx:Addr) (fs:List (Str×V)) (h:H a=some (.ins C dx fs)) (l:fs.length < 1000) (r:R dx fs):InsC C a H R
def Z6O (K:W.Frag) (ta tv:TE) (rd:V→V→Hp→VK→Prop) (f:Str):TS:=fun D σ H=>ta σ H fun x H1=>∃ a,x=.ref a∧FldC K f a H1 fun C v=>
 tv σ H1 fun y H2=>rd v y H2 fun z H3=>InsC C a H3 fun dx' fs'=>D.nx σ (upd H3 a (.ins C dx' (putF f z fs')))
theorem J2B {K:W.Frag} {rd:V→V→Hp→VK→Prop} {D:Ends} {σ:St} {H:Hp}:Z6O K ta tv rd f D σ H=ta σ H fun x H1=>∃ a,x=.ref a∧FldC K f a H1 fun C v=>
 tv σ H1 fun y H2=>rd v y H2 fun z H3=>InsC C a H3 fun dx' fs'=>D.nx σ (upd H3 a (.ins C dx' (putF f z fs'))):=rfl
theorem Z2U {op:Operator} {rd:V→V→Hp→VK→Prop} (ha:PE X o ta) (hv:PE X value tv) (hop:InOp X op rd):PS X (.AugAssign (.Attribute o f tpos) op value pos) (Z6O X.K ta tv rd f):=by
 intro pins s σ H D I h
 refine wpAny_AugAssign_AttributeAny (thn (ha pins s σ H _ I h) fun ov s1 hz=>?_)
 obtain ⟨x,H1,I1,rx,a,ex,hz⟩:=hz
 obtain ⟨C,dx,fs,ea,c,n,v,l,q⟩:=hz
 subst ex
 cases (show ov=Value.ref a from rx)
 refine Z4Y I1 ea c n l fun u s2 I2 ru=>thn (hv pins s2 σ H1 _ I2 q) fun w3 s3 ⟨y,H2,I3,ry,q3⟩=>thn (hop pins s3 σ H2 v y u w3 _ I3 ru ry q3) fun w4 s4 ⟨z,H3,I4,rz,hz⟩=>?_
 obtain ⟨dx',fs',ea',l',q4⟩:=hz
 exact Z4Q I4 ea' c n l' rz fun s5 I5=>⟨σ,_,I5,q4⟩
inductive Z8Z (C:Addr) (m:Str) (a:Addr) (H:Hp) (R:Prop):Prop
 | mk (dx:Addr) (fs:List (Str×V)) (h:H a=some (.ins C dx fs)) (l:fs.lookup m=none) (r:R):Z8Z C m a H R
def Z9T (C:Addr) (m:Str) (sp:Sp) (dvs:List V) (E:XK) (ta:TE) (t:TA):TE:=fun σ H Q=>ta σ H fun x H1=>∃ a,x=.ref a∧Z8Z C m a H1 (t σ H1 fun vs H2=>sp (x::(vs++dvs)) H2 Q E)
theorem J4B {C:Addr} {m:Str} {sp:Sp} {dvs:List V} {E:XK} {t:TA} {σ:St} {H:Hp} {Q:VK}:Z9T C m sp dvs E ta t σ H Q=ta σ H fun x H1=>∃ a,x=.ref a∧Z8Z C m a H1 (t σ H1 fun vs H2=>sp (x::(vs++dvs)) H2 Q E):=rfl
variable {C:Addr} {m:Str} {ps:List Str} {sp:Sp} {k j:Nat} {es:List Expr} {t:TA} {apos:Pos}
theorem Z1a {pl:Sem Bool} (he:PE X o ta) (c:Cls X.K C) (h:HasM X.prog X.w X.K X.mg X.base k C m ps sp) (hr:Room j X.A) (hk:k≤j) (ha:PA X (e::es) t)
  (hst:starEach (e::es) X.env=(false,eval e X.env)::starEach es X.env:=by rfl) (hpl:(backTo pos (starEach es X.env)).any (·.1)=false:=by rfl)
  (ht:eval (.Call (.Attribute o m apos) (e::es) [] pos) X.env=(do
   let ov ← eval o X.env
   standAt apos.atName
   let (f,first) ← holding [ov] (getMethod ov m pl)
   callWith pos f first (backTo pos (starEach (e::es) X.env)) (backToKw pos (keywordEach [] X.env))):=by rfl) :
  PE X (.Call (.Attribute o m apos) (e::es) [] pos) (Z9T C m sp [] E0 ta t):=
 fun pins s σ H Q I h'=>J2m he.mono c h hr hk ha hst hpl ht pins s σ H Q I ⟨_,h',fun _ _ ⟨a,e,dx,fs,h,l,r⟩=>⟨a,dx,fs,e,h,l,r⟩⟩
theorem Z1q {pl:Sem Bool} (he:PE X o ta) (c:Cls X.K C) (h:HasM X.prog X.w X.K X.mg X.base k C m ps sp) (hr:Room j X.A) (hk:k≤j)
  (ht:eval (.Call (.Attribute o m apos) [] [] pos) X.env=(do
   let ov ← eval o X.env
   standAt apos.atName
   let (f,first) ← holding [ov] (getMethod ov m pl)
   callWith pos f first (backTo pos (starEach [] X.env)) (backToKw pos (keywordEach [] X.env))):=by rfl) :
  PE X (.Call (.Attribute o m apos) [] [] pos) (Z9T C m sp [] E0 ta tNil):=
 fun pins s σ H Q I h'=>J0V he.mono c h hr hk ht pins s σ H Q I ⟨_,h',fun _ _ ⟨a,e,dx,fs,h,l,r⟩=>⟨a,dx,fs,e,h,l,r⟩⟩
inductive IxT (K:W.Frag) (p:Addr) (i:Int) (H:Hp) (Q:VK):Prop
 | mk (xs:List V) (h:SqT K H p xs) (v:V) (l:atI xs i=some v) (q:Q v H):IxT K p i H Q
inductive IxL (K:W.Frag) (p:Addr) (i:Int) (H:Hp) (Q:VK):Prop
 | mk (xs:List V) (h:SqL K H p xs) (v:V) (l:atI xs i=some v) (q:Q v H):IxL K p i H Q
def Z0M (K:W.Frag):R2:=fun x y H Q=>∃ p,x=.ref p∧∃ i,y=.int i∧IxT K p i H Q
def Z0U (K:W.Frag):R2:=fun x y H Q=>∃ p,x=.ref p∧∃ i,y=.int i∧IxL K p i H Q
theorem J5a {K:W.Frag} {x y:V} {H:Hp} {Q:VK}:Z0M K x y H Q=∃ p,x=.ref p∧∃ i,y=.int i∧IxT K p i H Q:=rfl
theorem J5G {K:W.Frag} {x y:V} {H:Hp} {Q:VK}:Z0U K x y H Q=∃ p,x=.ref p∧∃ i,y=.int i∧IxL K p i H Q:=rfl
theorem Z0r:IxR X (Z0M X.K):=fun value slice pins s σ H x y v u Q I rx ry ⟨p,e1,i,e2,xs,h,z,l,q⟩ hs=>J4k value slice pins s σ H x y v u Q I rx ry ⟨p,xs,i,z,e1,e2,h,l,q⟩ hs
theorem Z0w:IxR X (Z0U X.K):=fun value slice pins s σ H x y v u Q I rx ry ⟨p,e1,i,e2,xs,h,z,l,q⟩ hs=>J2z value slice pins s σ H x y v u Q I rx ry ⟨p,xs,i,z,e1,e2,h,l,q⟩ hs
inductive SetL (p:Addr) (k:Int) (H:Hp) (R:List V→Nat→Prop):Prop
 | mk (xs:List V) (h:H p=some (.lst xs)) (j:Nat) (l:ixN xs.length k=some j) (r:R xs j):SetL p k H R
def J1p:TSet:=fun o i v H Q=>∃ p,o=.ref p∧∃ k,i=.int k∧SetL p k H fun xs j=>Q (upd H p (.lst (xs.set j v)))
theorem J4H {o i v:V} {H:Hp} {Q:Hp→Prop}:J1p o i v H Q=∃ p,o=.ref p∧∃ k,i=.int k∧SetL p k H fun xs j=>Q (upd H p (.lst (xs.set j v))):=rfl
theorem Z1M:PSet X J1p:=fun pins s σ H o i v ov iv u Q I ro ri rv ⟨p,e1,k,e2,xs,h,j,l,q⟩=>J1i pins s σ H o i v ov iv u Q I ro ri rv ⟨p,xs,k,j,e1,e2,h,l,q⟩
inductive HdOf (vs:List V) (R:V→List V→Prop):Prop
 | mk (v:V) (r:List V) (e:vs=v::r) (q:R v r):HdOf vs R
inductive J0S (K:W.Frag) (a:Addr) (n:Nat) (H:Hp) (R:List V→Prop):Prop
 | mk (xs:List V) (h:SqT K H a xs) (l:xs.length=n) (q:R xs):J0S K a n H R
def J3e (K:W.Frag) (n:Nat) (t:TGs):TG:=fun v σ H Q=>∃ a,v=.ref a∧J0S K a n H fun xs=>t xs σ H Q
theorem J4X {K:W.Frag} {n:Nat} {t:TGs} {v:V} {σ:St} {H:Hp} {Q:St→Hp→Prop}:J3e K n t v σ H Q=∃ a,v=.ref a∧J0S K a n H fun xs=>t xs σ H Q:=rfl
def J1E (t:TG) (u:TGs):TGs:=fun vs σ H Q=>HdOf vs fun v r=>t v σ H fun σ' H'=>u r σ' H' Q
theorem J3w {t:TG} {u:TGs} {vs:List V} {σ:St} {H:Hp} {Q:St→Hp→Prop}:J1E t u vs σ H Q=HdOf vs fun v r=>t v σ H fun σ' H'=>u r σ' H' Q:=rfl
theorem Z0B {e:Expr} {es:List Expr} {t:TG} {u:TGs} (h1:PG X e t) (h2:PGs X es u)
  (hs:(assignEach (e::es) X.env).map (·.2)=assign e X.env::(assignEach es X.env).map (·.2):=by rfl):PGs X (e::es) (J1E t u):=
 fun pins s σ H vs us Q I r ⟨v,w,e,q⟩=>J1d h1 h2 hs pins s σ H vs us Q I r ⟨v,w,e,q⟩
theorem Z1Z {es:List Expr} {k:Nat} {t:TGs} {n:Nat} (hc:X.calm=true) (h:PGs X es t)
  (hn:(assignEach es X.env).length=n:=by rfl) (hst:(assignEach es X.env).findIdx? (·.1)=none:=by rfl):PG X (.Tuple es k pos) (J3e X.K n t):=
 fun pins s σ H v u Q I r ⟨a,e,xs,h',l,q⟩=>J3M hc h hn hst pins s σ H v u Q I r ⟨a,xs,e,h',l,q⟩
end
@[elab_as_elim] theorem el0 {α:Type} {motive:List α→Prop} (us:List α) (h:us.length=0) (k:motive []):motive us:=match us,h with | [],_=>k 
@[elab_as_elim] theorem el1 {α:Type} {motive:List α→Prop} (us:List α) (h:us.length=1) (k:∀ a:α,motive [a]):motive us:=match us,h with | [a],_=>k a
@[elab_as_elim] theorem el2 {α:Type} {motive:List α→Prop} (us:List α) (h:us.length=2) (k:∀ a b:α,motive [a,b]):motive us:=match us,h with | [a,b],_=>k a b
@[elab_as_elim] theorem el3 {α:Type} {motive:List α→Prop} (us:List α) (h:us.length=3) (k:∀ a b c:α,motive [a,b,c]):motive us:=match us,h with | [a,b,c],_=>k a b c
@[elab_as_elim] theorem el4 {α:Type} {motive:List α→Prop} (us:List α) (h:us.length=4) (k:∀ a b c d:α,motive [a,b,c,d]):motive us:=match us,h with | [a,b,c,d],_=>k a b c d
@[elab_as_elim] theorem el5 {α:Type} {motive:List α→Prop} (us:List α) (h:us.length=5) (k:∀ a b c d e:α,motive [a,b,c,d,e]):motive us:=match us,h with | [a,b,c,d,e],_=>k a b c d e
@[elab_as_elim] theorem el6 {α:Type} {motive:List α→Prop} (us:List α) (h:us.length=6) (k:∀ a b c d e f:α,motive [a,b,c,d,e,f]):motive us:=match us,h with | [a,b,c,d,e,f],_=>k a b c d e f
@[elab_as_elim] theorem el7 {α:Type} {motive:List α→Prop} (us:List α) (h:us.length=7) (k:∀ a b c d e f g:α,motive [a,b,c,d,e,f,g]):motive us:=match us,h with | [a,b,c,d,e,f,g],_=>k a b c d e f g
theorem seq2 {t1 t2:TS} {D:Ends} {σ:St} {H:Hp} (h:∀ u1,u1=t2→t1 { D with nx:=u1 D } σ H):(tSeq t1 t2) D σ H:=h _ rfl
theorem seq3 {t1 t2 t3:TS} {D:Ends} {σ:St} {H:Hp} (h:∀ u2,u2=t3→∀ u1,u1=tSeq t2 u2→t1 { D with nx:=u1 D } σ H):(tSeq t1 (tSeq t2 t3)) D σ H:=h _ rfl _ rfl
theorem seq4 {t1 t2 t3 t4:TS} {D:Ends} {σ:St} {H:Hp} (h:∀ u3,u3=t4→∀ u2,u2=tSeq t3 u3→∀ u1,u1=tSeq t2 u2→t1 { D with nx:=u1 D } σ H):(tSeq t1 (tSeq t2 (tSeq t3 t4))) D σ H:=h _ rfl _ rfl _ rfl
theorem seq5 {t1 t2 t3 t4 t5:TS} {D:Ends} {σ:St} {H:Hp} (h:∀ u4,u4=t5→∀ u3,u3=tSeq t4 u4→∀ u2,u2=tSeq t3 u3→∀ u1,u1=tSeq t2 u2→t1 { D with nx:=u1 D } σ H):(tSeq t1 (tSeq t2 (tSeq t3 (tSeq t4 t5)))) D σ H:=h _ rfl _ rfl _ rfl _ rfl
theorem seq6 {t1 t2 t3 t4 t5 t6:TS} {D:Ends} {σ:St} {H:Hp} (h:∀ u5,u5=t6→∀ u4,u4=tSeq t5 u5→∀ u3,u3=tSeq t4 u4→∀ u2,u2=tSeq t3 u3→∀ u1,u1=tSeq t2 u2→t1 { D with nx:=u1 D } σ H):(tSeq t1 (tSeq t2 (tSeq t3 (tSeq t4 (tSeq t5 t6))))) D σ H:=h _ rfl _ rfl _ rfl _ rfl _ rfl
theorem seq7 {t1 t2 t3 t4 t5 t6 t7:TS} {D:Ends} {σ:St} {H:Hp} (h:∀ u6,u6=t7→∀ u5,u5=tSeq t6 u6→∀ u4,u4=tSeq t5 u5→∀ u3,u3=tSeq t4 u4→∀ u2,u2=tSeq t3 u3→∀ u1,u1=tSeq t2 u2→t1 { D with nx:=u1 D } σ H):(tSeq t1 (tSeq t2 (tSeq t3 (tSeq t4 (tSeq t5 (tSeq t6 t7)))))) D σ H:=h _ rfl _ rfl _ rfl _ rfl _ rfl _ rfl
theorem J6M {t1 t2 t3 t4 t5 t6 t7 t8 t9 t10:TS} {D:Ends} {σ:St} {H:Hp} (h:∀ u9,u9=t10→∀ u8,u8=tSeq t9 u9→∀ u7,u7=tSeq t8 u8→∀ u6,u6=tSeq t7 u7→∀ u5,u5=tSeq t6 u6→∀ u4,u4=tSeq t5 u5→∀ u3,u3=tSeq t4 u4→∀ u2,u2=tSeq t3 u3→∀ u1,u1=tSeq t2 u2→t1 { D with nx:=u1 D } σ H):(tSeq t1 (tSeq t2 (tSeq t3 (tSeq t4 (tSeq t5 (tSeq t6 (tSeq t7 (tSeq t8 (tSeq t9 t10))))))))) D σ H:=h _ rfl _ rfl _ rfl _ rfl _ rfl _ rfl _ rfl _ rfl _ rfl
theorem J5N {t1 t2 t3 t4 t5 t6 t7 t8 t9 t10 t11:TS} {D:Ends} {σ:St} {H:Hp} (h:∀ u10,u10=t11→∀ u9,u9=tSeq t10 u10→∀ u8,u8=tSeq t9 u9→∀ u7,u7=tSeq t8 u8→∀ u6,u6=tSeq t7 u7→∀ u5,u5=tSeq t6 u6→∀ u4,u4=tSeq t5 u5→∀ u3,u3=tSeq t4 u4→∀ u2,u2=tSeq t3 u3→∀ u1,u1=tSeq t2 u2→t1 { D with nx:=u1 D } σ H):(tSeq t1 (tSeq t2 (tSeq t3 (tSeq t4 (tSeq t5 (tSeq t6 (tSeq t7 (tSeq t8 (tSeq t9 (tSeq t10 t11)))))))))) D σ H:=h _ rfl _ rfl _ rfl _ rfl _ rfl _ rfl _ rfl _ rfl _ rfl _ rfl
theorem J4s {t1 t2 t3 t4 t5 t6 t7 t8 t9 t10 t11 t12:TS} {D:Ends} {σ:St} {H:Hp} (h:∀ u11,u11=t12→∀ u10,u10=tSeq t11 u11→∀ u9,u9=tSeq t10 u10→∀ u8,u8=tSeq t9 u9→∀ u7,u7=tSeq t8 u8→∀ u6,u6=tSeq t7 u7→∀ u5,u5=tSeq t6 u6→∀ u4,u4=tSeq t5 u5→∀ u3,u3=tSeq t4 u4→∀ u2,u2=tSeq t3 u3→∀ u1,u1=tSeq t2 u2→t1 { D with nx:=u1 D } σ H):(tSeq t1 (tSeq t2 (tSeq t3 (tSeq t4 (tSeq t5 (tSeq t6 (tSeq t7 (tSeq t8 (tSeq t9 (tSeq t10 (tSeq t11 t12))))))))))) D σ H:=h _ rfl _ rfl _ rfl _ rfl _ rfl _ rfl _ rfl _ rfl _ rfl _ rfl _ rfl
def New (H:Hp) (o:HO) (R:Addr→Hp→Prop):Prop:=∀ p,H p=none→R p (upd H p o)
theorem New.of {H:Hp} {o:HO} {R:Addr→Hp→Prop} (h:∀ p H',H p=none→Same H H'→H' p=some o→R p H'):New H o R:=fun p hp=>h p _ hp (Z0i hp o) Z0e
theorem J5M {t:TA} {σ:St} {H:Hp} {Q:VK}:tTup t σ H Q=(t σ H fun xs H1=>xs.length≤sizeLine∧New H1 (.tup xs) fun p H2=>Q (.ref p) H2):=rfl
theorem J6u {t:TA} {σ:St} {H:Hp} {Q:VK}:tLst t σ H Q=(t σ H fun xs H1=>xs.length≤sizeLine∧New H1 (.lst xs) fun p H2=>Q (.ref p) H2):=rfl
theorem J5W {K:W.Frag} {x:V} {lo:Option Int} {hi:Option Int} {H:Hp} {Q:VK}:rSlL K x lo hi H Q=(∃ a xs,x=.ref a∧SqL K H a xs∧New H (.lst (cutV xs lo hi)) fun p H2=>Q (.ref p) H2):=rfl
theorem J6w {x:V} {y:V} {H:Hp} {Q:VK}:rCat  x y H Q=(∃ l b xs zs,x=.ref l∧y=.ref b∧H l=some (.lst xs)∧H b=some (.lst zs)∧xs.length+zs.length≤sizeLine∧New H (.lst (xs++zs)) fun p H2=>Q (.ref p) H2):=rfl
end L2
end
section
namespace MM
open PySem L2
open Mach (AV AFr Row Sg Blk MS PL Mem getP updM seen Z0K)
noncomputable def Pr (H:Hp) (v:V) (p:Int×Int):Prop:=∃ t,v=.ref t∧H t=some (.tup [.int p.1,.int p.2])
noncomputable def SqP (H:Hp) (l:Addr) (ps:PL):Prop:=∃ rs,H l=some (.lst rs)∧Paired (Pr H) rs ps
noncomputable def At (hd:Addr→Prop) (H:Hp) (kvs:List (Key×V)) (k:Int):Option PL→Prop
 | none=>valV kvs (.inl k)=none
 | some ps=>∃ l,valV kvs (.inl k)=some (.ref l)∧¬ hd l∧SqP H l ps
noncomputable def Rep (hd:Addr→Prop) (H:Hp) (d:Addr) (n:Nat) (m:Mem):Prop:=∃ kvs,H d=some (.dK kvs)∧kvs.length≤n∧∀ k,At hd H kvs k (m k)
noncomputable def SameX (d:Addr) (H H':Hp):Prop:=∀ b o,b≠d→H b=some o→H' b=some o
theorem Same.x {H H':Hp} (s:Same H H') (d:Addr):SameX d H H':=fun b o _ h=>s b o h
theorem SameX.trans {d:Addr} {H H1 H2:Hp} (a:SameX d H H1) (b:SameX d H1 H2):SameX d H H2:=fun c o n h=>b c o n (a c o n h)
theorem Z1c {d:Addr} {H:Hp} (o:HO):SameX d H (upd H d o):=fun b u n h=>by rw [Z0h n]; exact h
theorem Prs.mono {H H':Hp} {rs:List V} {ps:PL} (e:∀ t xs,H t=some (.tup xs)→H' t=some (.tup xs)):Paired (Pr H) rs ps→Paired (Pr H') rs ps:=fun h=>Paired.imp' (fun v p ⟨t,a,b⟩=>⟨t,a,e _ _ b⟩) h
theorem SqP.same {H H':Hp} {l:Addr} {ps:PL} (h:SqP H l ps) (s:Same H H'):SqP H' l ps:=let ⟨rs,a,b⟩:=h; ⟨rs,s _ _ a,Prs.mono (fun t xs e=>s _ _ e) b⟩
theorem SqP.x {H H':Hp} {d l:Addr} {ps:PL} (h:SqP H l ps) (s:SameX d H H') (nl:l≠d) (nt:∀ xs,H d≠some (.tup xs)):SqP H' l ps:=by
 obtain ⟨rs,a,b⟩:=h
 refine ⟨rs,s _ _ nl a,Prs.mono (fun t xs e=>s _ _ (fun z=>nt xs (z▸e)) e) b⟩
theorem At.imp {hd:Addr→Prop} {H H':Hp} {kvs:List (Key×V)} {k:Int} {o:Option PL} (h:At hd H kvs k o) (f:∀ l ps,¬ hd l→SqP H l ps→SqP H' l ps):At hd H' kvs k o:=by
 cases o with
 | none=>exact h
 | some ps=>
  obtain ⟨l,a,b,c⟩:=h
  exact ⟨l,a,b,f l ps b c⟩
theorem Rep.same {hd:Addr→Prop} {H H':Hp} {d:Addr} {n:Nat} {m:Mem} (h:Rep hd H d n m) (s:Same H H'):Rep hd H' d n m:=
 let ⟨kvs,a,b,c⟩:=h; ⟨kvs,s _ _ a,b,fun k=>(c k).imp fun l ps _ q=>q.same s⟩
theorem Rep.hd {hd:Addr→Prop} {H H':Hp} {d y:Addr} {n:Nat} {m:Mem} (h:Rep hd H d n m) (s:SameX y H H') (hy:hd y) (nd:d≠y) (nt:∀ xs,H y≠some (.tup xs)):Rep hd H' d n m:=by
 obtain ⟨kv,a,b,c⟩:=h
 exact ⟨kv,s _ _ nd a,b,fun k=>(c k).imp fun l ps nl q=>q.x s (fun z=>nl (z▸hy)) nt⟩
theorem Rep.put {hd:Addr→Prop} {H:Hp} {d l:Addr} {n:Nat} {m:Mem} {k:Int} {ps:PL} {kvs:List (Key×V)} (hd1:H d=some (.dK kvs)) (hn:kvs.length≤n) (hm:∀ k,At hd H kvs k (m k)) (hl:¬ hd l) (q:SqP H l ps) :
  Rep hd (upd H d (.dK (putK kvs (.inl k) (.ref l)))) d (n+1) (updM m k ps):=by
 have fr:∀ l' ps',SqP H l' ps'→SqP (upd H d (.dK (putK kvs (.inl k) (.ref l)))) l' ps':=fun l' ps' q=>q.x (Z1c _) (fun z=>by obtain ⟨rs,a,_⟩:=q; rw [z,hd1] at a; cases a) (fun xs z=>by rw [hd1] at z; cases z)
 refine ⟨_,Z0e,Nat.le_trans (Z2j _ _ _) (by omega),fun j=>?_⟩
 unfold updM
 by_cases hj:j=k
 ·subst hj
  rw [if_pos rfl]
  exact ⟨l,by rw [Z2X,if_pos rfl],hl,fr l ps q⟩
 ·rw [if_neg hj]
  have:=hm j
  have nj:¬ (Sum.inl j:Key)=Sum.inl k:=fun z=>hj (Sum.inl.inj z)
  cases e:m j with
  | none=>
   rw [e] at this
   show valV _ _=none
   rw [Z2X,if_neg nj]
   exact this
  | some qs=>
   rw [e] at this
   obtain ⟨l',a,b,c⟩:=this
   exact ⟨l',by rw [Z2X,if_neg nj]; exact a,b,fr l' qs c⟩
theorem Paired.takeP {α β:Type} {R:α→β→Prop}:∀ {xs:List α} {ys:List β} (n:Nat),Paired R xs ys→Paired R (xs.take n) (ys.take n)
 | _,_,0,_=>.nil
 | _,_,_+1,.nil=>.nil
 | _,_,n+1,.cons r t=>.cons r (Paired.takeP n t)
theorem cut2 (xs:List V):cutV xs none (some 2)=xs.take 2:=by
 unfold cutV
 rw [HT.sIx_none,show (some (2:Int))=some ((2:Nat):Int) from rfl,HT.sIx_nat,List.drop_zero,Nat.sub_zero]
 by_cases h:2≤xs.length
 ·rw [Nat.min_eq_left h]
 ·rw [Nat.min_eq_right (by omega),List.take_of_length_le (Nat.le_refl _),List.take_of_length_le (by omega)]
theorem Paired.appendP {α β:Type} {R:α→β→Prop}:∀ {xs xs':List α} {ys ys':List β},Paired R xs ys→Paired R xs' ys'→Paired R (xs++xs') (ys++ys')
 | _,_,_,_,.nil,s=>s
 | _,_,_,_,.cons r t,s=>.cons r (Paired.appendP t s)
noncomputable def dP (p:Int×Int):PyData:=.tuple [.int p.1,.int p.2]
theorem Prs.rd {K:W.Frag} {H:Hp}:∀ {rs:List V} {ps:PL},Paired (Pr H) rs ps→RdDs K H rs (ps.map dP)
 | _,_,.nil=>.nil
 | _,_,.cons ⟨t,e,h⟩ r=>by subst e; exact .cons (.tup (SqT.of h) (.cons (.int _) (.cons (.int _) .nil))) (Prs.rd r)
theorem SqP.rd {K:W.Frag} {H:Hp} {l:Addr} {ps:PL} (h:SqP H l ps):RdD K H (.ref l) (.list (ps.map dP)):=let ⟨_,a,b⟩:=h; .lst (SqL.of a) (Prs.rd b)
theorem J1O:∀ ps:PL,PyData.canLayAll0 (ps.map dP)=true
 | []=>rfl
 | p::r=>by
  show (PyData.canLay0 (dP p)&&PyData.canLayAll0 (r.map dP))=true
  rw [J1O r]; rfl
theorem Z6U:∀ ps:PL,PyData.depthAll (ps.map dP)≤5
 | []=>by decide
 | p::r=>by
  have:=Z6U r
  show max (PyData.depth (dP p)) (PyData.depthAll (r.map dP))≤5
  have:PyData.depth (dP p)≤5:=by show PyData.depth (.tuple [.int p.1,.int p.2])≤5; simp [PyData.depth,PyData.depthAll]
  omega
theorem Z9P (ps:PL):PySem.SeqAt.shaped (.list (ps.map dP))=true:=by
 unfold PySem.SeqAt.shaped
 have h1:PyData.canLay0 (.list (ps.map dP))=true:=by rw [PyData.canLay0]; exact J1O ps
 have h2:PyData.depth (.list (ps.map dP))≤64:=by rw [PyData.depth]; have:=Z6U ps; omega
 rw [h1,decide_eq_true h2]; rfl
theorem Z7X (ps:PL):PyData.eqv (.list (ps.map dP)) (.list [])=ps.isEmpty:=by
 cases ps with
 | nil=>rw [PyData.eqv]; rfl
 | cons p r=>rw [PyData.eqv]; rfl
theorem Z4R {K:W.Frag} {H:Hp} {D a:Addr} {rs:List V} {ps:PL} {tc:TT} {Q:VK} {σ0:St} (rest:St) (pf:Int×Int→Bool) (v0:Option V) (e0:σ0=v0::rest) (ha:SqL K H a rs) (hD:H D=none) (hp:Paired (Pr H) rs ps) (hz:rs.length≤sizeLine)
  (hc:∀ t (p:Int×Int) l K',upd H D (.lst l) t=some (.tup [.int p.1,.int p.2])→K' (pf p) (upd H D (.lst l))→tc (some (.ref t)::rest) (upd H D (.lst l)) K')
  (hQ:∀ rs',Paired (Pr (upd H D (.lst rs'))) rs' (ps.filter pf)→Q (.ref D) (upd H D (.lst rs'))):Z3P (Itl K a) (Z3A 0) tc (Z7Q 0) D Q σ0 (upd H D (.lst [])):=by
 have sm:∀ l,Same H (upd H D (.lst l)):=fun l=>Z0i hD _
 let pv:V→Bool:=fun v=>match v with
  | .ref t=>(match H t with | some (.tup [.int i,.int j])=>pf (i,j) | _=>false)
  | _=>false
 have pv_eq:∀ t (p:Int×Int),H t=some (.tup [.int p.1,.int p.2])→pv (.ref t)=pf p:=fun t p h=>by show (match H t with | some (.tup [.int i,.int j])=>pf (i,j) | _=>false)=_; rw [h]
 have mem:∀ {rs:List V} {ps:PL},Paired (Pr H) rs ps→∀ x∈rs,∃ t,∃ p:Int×Int,x=.ref t∧H t=some (.tup [.int p.1,.int p.2]):=by
  intro rs ps h
  induction h with
  | nil=>intro x hx; cases hx
  | cons r _ ih=>
   intro x hx
   rcases List.mem_cons.mp hx with e | hx
   ·subst e; obtain ⟨t,e,h⟩:=r; exact ⟨t,_,e,h⟩
   ·exact ih x hx
 have fil:∀ {rs:List V} {ps:PL},Paired (Pr H) rs ps→Paired (Pr H) (rs.filter pv) (ps.filter pf):=by
  intro rs ps h
  induction h with
  | nil=>exact .nil
  | cons r _ ih=>
   obtain ⟨t,e,h⟩:=r
   subst e
   rw [List.filter_cons,List.filter_cons,pv_eq t _ h]
   cases pf _ with
   | true=>exact .cons ⟨t,rfl,h⟩ ih
   | false=>exact ih
 refine Z6c rs pv (fun v=>v) (fun σ'=>∃ v,σ'=v::rest) (fun x σ'=>σ'=some x::rest) ⟨v0,e0⟩ (fun i l h=>⟨rs,rs[i],(sm l).seq ha,by simp [h]⟩) (fun l=>⟨rs,(sm l).seq ha,Nat.le_refl _⟩) (fun i l x H' hi h=>⟨h.1,h.2 rs ((sm l).seq ha)⟩)
  (fun x hx σ' H' K' h1 h2=>?_) (fun x hx σ' l K' h1 h2=>?_) (fun x hx _ σ' l K' h1 h2=>?_) hz ?_
 ·obtain ⟨v,rfl⟩:=h1
  exact h2 _ ⟨_,rfl⟩ rfl
 ·subst h1
  obtain ⟨t,p,rfl,h⟩:=mem hp x hx
  rw [pv_eq t p h] at h2
  exact hc t p l K' (sm l _ _ h) h2
 ·subst h1
  exact h2
 ·rw [List.map_id']
  exact hQ _ (Prs.mono (fun t xs z=>sm _ _ _ z) (fil hp))
end MM
end
section
namespace MM
open PySem L2
open Mach (AV AFr Row Sg Blk MS PL Mem getP updM seen Z0K Bd)
noncomputable def Z5d (n:Int):List V:=if Bd n then [.str "value",.int n] else [.str "refused",.str "great"]
noncomputable def num (sg:Str) (a b:Int):Int:=if sg="+" then a+b else if sg="-" then a - b else if sg="*" then a * b else a.fdiv b
structure Fr where
 n:V
 at_:Int
 sl:List V
 st:List V
noncomputable def FrAt (K:W.Frag) (H:Hp) (a:Addr) (F:Fr):Prop:=∃ sa ta,SqT K H a [F.n,.int F.at_,.ref sa,.ref ta]∧SqT K H sa F.sl∧SqT K H ta F.st
theorem FrAt.same {K:W.Frag} {H H':Hp} {a:Addr} {F:Fr} (h:FrAt K H a F) (s:Same H H'):FrAt K H' a F:=let ⟨sa,ta,x,y,z⟩:=h; ⟨sa,ta,x.same s,y.same s,z.same s⟩
inductive Z6e (K:W.Frag) (vs:List V) (H:Hp) (Q:VK):Prop
 | mk (a:Addr) (m:Nat) (v:V) (F:Fr) (a1:vs=[.ref a,.int m,v]) (a2:FrAt K H a F) (a3:m≤F.st.length) (a4:F.st.length < 100000) (a5:∀ p H',Same H H'→FrAt K H' p ⟨F.n,F.at_+1,F.sl,F.st.take (F.st.length - m)++[v]⟩→Q (.ref p) H'):Z6e K vs H Q
noncomputable def Z2N (K:W.Frag):Sp:=fun vs H Q _=>Z6e K vs H Q
theorem Z7B (xs:List V) (k:Nat):cutV xs none (some (k:Int))=xs.take k:=by
 unfold cutV
 rw [HT.sIx_none,HT.sIx_nat,List.drop_zero,Nat.sub_zero]
 by_cases h:k≤xs.length
 ·rw [Nat.min_eq_left h]
 ·rw [Nat.min_eq_right (by omega),List.take_of_length_le (Nat.le_refl _),List.take_of_length_le (by omega)]
inductive Z4P (vs:List V) (H:Hp) (Q:VK):Prop
 | mk (n:_) (a1:vs=[.int n]) (a2:∀ p,H p=none→Q (.ref p) (upd H p (.tup (Z5d n)))):Z4P vs H Q
noncomputable def Z4K:Sp:=fun vs H Q _=>Z4P  vs H Q
inductive Z3e (vs:List V) (H:Hp) (Q:VK):Prop
 | mk (sg:_) (a:_) (b:_) (a1:vs=[.str sg,.int a,.int b]) (a2:Bd a) (a3:Bd b) (a4:(sg="+"∨sg="-"∨sg="*"∨b≠0)) (a5:Q (.int (num sg a b)) H):Z3e vs H Q
noncomputable def Z3i:Sp:=fun vs H Q _=>Z3e  vs H Q
noncomputable def Z7W (sg:Str) (a b:Int):List V:=if sg="/"∧b=0 then [.str "refused",.str "nought"] else Z5d (num sg a b)
inductive TwoR (K:W.Frag) (H:Hp):Str→V→V→List V→Prop
 | lt (a b:Int):TwoR K H "<" (.int a) (.int b) [.str "value",.bl (decide (a < b))]
 | eq {va vb:V} {da db:PyData}:RdD K H va da→RdD K H vb db→PySem.SeqAt.shaped da=true→PySem.SeqAt.shaped db=true→TwoR K H "=" va vb [.str "value",.bl (PyData.eqv da db)]
 | ar {sg:Str} {a b:Int}:(sg="+"∨sg="-"∨sg="*"∨sg="/")→Bd a→Bd b→TwoR K H sg (.int a) (.int b) (Z7W sg a b)
theorem TwoR.shape {K:W.Frag} {H:Hp} {sg:Str} {x y:V} {r:List V} (h:TwoR K H sg x y r):(∃ why,r=[.str "refused",.str why])∨∃ v,r=[.str "value",v]:=by
 cases h with
 | lt a b=>exact .inr ⟨_,rfl⟩
 | eq=>exact .inr ⟨_,rfl⟩
 | ar=>
  unfold Z7W
  split
  ·exact .inl ⟨_,rfl⟩
  ·unfold Z5d
   split
   ·exact .inr ⟨_,rfl⟩
   ·exact .inl ⟨_,rfl⟩
theorem J6I (st:List V) (x y:V):atI (st++[x,y]) (-1)=some y:=by
 have:=Z2d (st++[x]) y
 rw [List.append_assoc] at this
 exact this
theorem J6l (st:List V) (x y:V):atI (st++[x,y]) (-2)=some x:=by
 unfold atI ixN
 rw [if_neg (by decide),if_pos (by rw [List.length_append]; show -((st.length+2:Nat):Int)≤-2; omega)]
 have e:((-2:Int)+((st++[x,y]).length:Int)).toNat=st.length:=by rw [List.length_append]; show ((-2:Int)+((st.length+2:Nat):Int)).toNat=_; omega
 rw [e]
 show (st++[x,y])[st.length]?=some x
 rw [List.getElem?_append_right (Nat.le_refl _),Nat.sub_self]
 rfl
inductive Z4x (K:W.Frag) (vs:List V) (H:Hp) (Q:VK):Prop
 | mk (sg:_) (va:_) (vb:_) (r:_) (a1:vs=[.str sg,va,vb]) (a2:TwoR K H sg va vb r) (a3:∀ p H',Same H H'→SqT K H' p r→Q (.ref p) H'):Z4x K vs H Q
noncomputable def Z4n (K:W.Frag):Sp:=fun vs H Q _=>Z4x K vs H Q
inductive Z7C (K:W.Frag) (vs:List V) (H:Hp) (Q:VK):Prop
 | mk (tl th:Addr) (pl k:Int) (ts:List V) (e ia:Addr) (hv:V) (inner:List V) (v:V) (a1:vs=[.ref tl,.ref th,.int pl]) (a2:SqL K H tl ts) (a3:SqT K H th [.str "thing",.int k]) (a4:atI ts k=some (.ref e)) (a5:SqT K H e [hv,.ref ia]) (a6:SqT K H ia inner) (a7:atI inner pl=some v) (a8:Q v H):Z7C K vs H Q
noncomputable def Z7h (K:W.Frag):Sp:=fun vs H Q _=>Z7C K vs H Q
inductive Z4v (K:W.Frag) (vs:List V) (H:Hp) (Q:VK):Prop
 | mk (sg:Str) (a:Addr) (F:Fr) (st:List V) (x y:V) (r:List V) (a1:vs=[.str sg,.ref a]) (a2:FrAt K H a F) (a3:F.st=st++[x,y]) (a4:F.st.length < 100000) (a5:TwoR K H sg x y r) (a6:(∀ why p q' H',r=[.str "refused",.str why]→Same H H'→SqT K H' q' r→SqT K H' p [.ref a,.ref q']→Q (.ref p) H')) (a7:∀ v p f' H',r=[.str "value",v]→Same H H'→FrAt K H' f' ⟨F.n,F.at_+1,F.sl,st++[v]⟩→SqT K H' p [.ref f',.non]→Q (.ref p) H'):Z4v K vs H Q
noncomputable def Z3Y (K:W.Frag):Sp:=fun vs H Q _=>Z4v K vs H Q
inductive OwnR (K:W.Frag) (H:Hp) (tl:Addr) (F:Fr):Str→List V→Fr→Prop
 | push (v:V):OwnR K H tl F "push" [v] ⟨F.n,F.at_+1,F.sl,F.st++[v]⟩
 | load (i:Int) (v:V):atI F.sl i=some v→OwnR K H tl F "load" [.int i] ⟨F.n,F.at_+1,F.sl,F.st++[v]⟩
 | nt (b:Bool) (st:List V):F.st=st++[.bl b]→OwnR K H tl F "not" [] ⟨F.n,F.at_+1,F.sl,st++[.bl (!b)]⟩
 | get (st:List V) (th:Addr) (k pl:Int) (ts:List V) (e ia:Addr) (hv:V) (inner:List V) (v:V):F.st=st++[.ref th]→SqL K H tl ts→SqT K H th [.str "thing",.int k]→atI ts k=some (.ref e)→SqT K H e [hv,.ref ia]→SqT K H ia inner→atI inner pl=some v→OwnR K H tl F "get" [.int pl] ⟨F.n,F.at_+1,F.sl,st++[v]⟩
 | keep (i:Nat) (v:V) (st:List V):F.st=st++[v]→i < F.sl.length→F.sl.length < 100000→OwnR K H tl F "keep" [.int i] ⟨F.n,F.at_+1,F.sl.take i++[v]++F.sl.drop (i+1),st⟩
 | drop (v:V) (st:List V):F.st=st++[v]→OwnR K H tl F "drop" [] ⟨F.n,F.at_+1,F.sl,st⟩
 | skip (n:Int):OwnR K H tl F "skip" [.int n] ⟨F.n,F.at_+1+n,F.sl,F.st⟩
 | unl (n:Int) (b:Bool) (st:List V):F.st=st++[.bl b]→OwnR K H tl F "unless" [.int n] ⟨F.n,F.at_+1+(if b=true then 0 else n),F.sl,st⟩
theorem Z9U (st:List V) (x:V):List.take ((st++[x]).length - 1) (st++[x])=st:=by
 rw [List.length_append]
 show List.take (st.length+1 - 1) _=_
 rw [Nat.add_sub_cancel,List.take_left']
 rfl
theorem Z7t (st:List V) (x:V):cutV (st++[x]) none (some (-1))=st:=by
 unfold cutV
 have e:HT.sIx (st++[x]).length (st++[x]).length (some (-1))=st.length:=by
  show (if (-1:Int) < 0 then ((-1:Int)+((st++[x]).length:Int)).toNat else min (-1:Int).toNat (st++[x]).length)=_
  rw [if_pos (by decide),List.length_append]
  show ((-1:Int)+((st.length+1:Nat):Int)).toNat=_
  omega
 rw [HT.sIx_none,e,List.drop_zero,Nat.sub_zero,List.take_left']
 rfl
theorem Z5o (xs:List V) (k:Nat):cutV xs (some (k:Int)) none=xs.drop k:=by
 unfold cutV
 rw [HT.sIx_none,HT.sIx_nat]
 by_cases h:k≤xs.length
 ·rw [Nat.min_eq_left h,List.take_of_length_le (by rw [List.length_drop]; omega)]
 ·rw [Nat.min_eq_right (by omega),List.drop_eq_nil_of_le (Nat.le_refl _),List.drop_eq_nil_of_le (by omega),List.take_nil]
theorem Z5l (v:V):∀ n:Nat,(List.replicate n [v]).flatten=List.replicate n v
 | 0=>rfl
 | n+1=>by rw [List.replicate_succ,List.flatten_cons,Z5l v n,List.replicate_succ]; rfl
inductive Z4W (K:W.Frag) (vs:List V) (H:Hp) (Q:VK):Prop
 | mk (b va:Addr) (nv m rows:V) (size:Nat) (xs:List V) (a1:vs=[.ref b,nv,.ref va]) (a2:SqT K H b [m,.int size,rows]) (a3:(SqL K H va xs∨SqT K H va xs)) (a4:xs.length≤size) (a5:size < 100000) (a6:∀ p H',Same H H'→FrAt K H' p ⟨nv,0,xs++List.replicate (size - xs.length) .non,[]⟩→Q (.ref p) H'):Z4W K vs H Q
noncomputable def Z3J (K:W.Frag):Sp:=fun vs H Q _=>Z4W K vs H Q
noncomputable def J6R:List (Str×Str):=[("add","+"),("sub","-"),("mul","*"),("div","/"),("less","<"),("same","=")]
end MM
end
section
namespace MM
open PySem L2
open Mach (AV AFr Row Sg Blk MS PL Mem getP updM seen Z0K Bd)
noncomputable def sgN:Sg→Str
 | .add=>"add"
 | .sub=>"sub"
 | .mul=>"mul"
 | .div=>"div"
 | .less=>"less"
 | .same=>"same"
noncomputable def RowAt (K:W.Frag) (H:Hp) (r:Addr):Row→Prop
 | .push v=>∃ x,SqT K H r [.str "push",x]∧AtV K H x v
 | .load i=>SqT K H r [.str "load",.int i]
 | .nt=>SqT K H r [.str "not"]
 | .get pl=>SqT K H r [.str "get",.int pl]
 | .keep i=>SqT K H r [.str "keep",.int i]
 | .drop=>SqT K H r [.str "drop"]
 | .skip n=>SqT K H r [.str "skip",.int n]
 | .unl n=>SqT K H r [.str "unless",.int n]
 | .two g=>SqT K H r [.str (sgN g)]
 | .make h m=>SqT K H r [.str "make",.int h,.int m]
 | .put pl=>SqT K H r [.str "put",.int pl]
 | .call s w m=>SqT K H r [.str "call",.int s,.int w,.int m]
 | .straight b m=>SqT K H r [.str "straight",.int b,.int m]
 | .back=>SqT K H r [.str "back"]
theorem RowAt.t {K:W.Frag} {H H':Hp} {r:Addr} {row:Row} (h:RowAt K H r row) (s:SameT H H'):RowAt K H' r row:=by
 cases row with
 | push v=>obtain ⟨x,a,b⟩:=h; exact ⟨x,SqT.t a s,AtV.t b s⟩
 | _=>exact SqT.t h s
noncomputable def RowV (K:W.Frag) (H:Hp) (v:V) (row:Row):Prop:=∃ r,v=.ref r∧RowAt K H r row
noncomputable def BlkAt (K:W.Frag) (H:Hp) (v:V) (b:Blk):Prop:=∃ a ra rs,v=.ref a∧SqT K H a [.int b.params,.int b.size,.ref ra]∧SqT K H ra rs∧Paired (RowV K H) rs b.rows
theorem BlkAt.t {K:W.Frag} {H H':Hp} {v:V} {b:Blk} (h:BlkAt K H v b) (s:SameT H H'):BlkAt K H' v b:=
 let ⟨a,ra,rs,e,x,y,z⟩:=h; ⟨a,ra,rs,e,SqT.t x s,SqT.t y s,Pd.imp (fun _ _ ⟨r,e,q⟩=>⟨r,e,q.t s⟩) z⟩
noncomputable def tabV:Option Nat→V
 | none=>.non
 | some n=>.int n
noncomputable def J5Y (K:W.Frag) (H:Hp) (v:V) (t:List (Option Nat)):Prop:=∃ a,v=.ref a∧SqT K H a (t.map tabV)
structure PrAt (K:W.Frag) (H:Hp) (B TT:Addr) (P:Mach.Prog):Prop where
 bl:∃ bs,SqT K H B bs∧Paired (BlkAt K H) bs P.blocks
 tb:∃ ts,SqT K H TT ts∧Paired (J5Y K H) ts P.tables
theorem PrAt.t {K:W.Frag} {H H':Hp} {B TT:Addr} {P:Mach.Prog} (h:PrAt K H B TT P) (s:SameT H H'):PrAt K H' B TT P:=
 ⟨let ⟨bs,a,b⟩:=h.bl; ⟨bs,SqT.t a s,Pd.imp (fun _ _ q=>q.t s) b⟩,let ⟨ts,a,b⟩:=h.tb; ⟨ts,SqT.t a s,Pd.imp (fun _ _ ⟨x,e,q⟩=>⟨x,e,SqT.t q s⟩) b⟩⟩
theorem FrAt.t {K:W.Frag} {H H':Hp} {a:Addr} {F:Fr} (h:FrAt K H a F) (s:SameT H H'):FrAt K H' a F:=let ⟨sa,ta,x,y,z⟩:=h; ⟨sa,ta,SqT.t x s,SqT.t y s,SqT.t z s⟩
noncomputable def FrIs (K:W.Frag) (H:Hp) (a:Addr) (f:AFr):Prop:=∃ F,FrAt K H a F∧F.n=.int f.n∧F.at_=f.pc∧AtVs K H F.sl f.sl∧AtVs K H F.st f.st.reverse
theorem FrIs.t {K:W.Frag} {H H':Hp} {a:Addr} {f:AFr} (h:FrIs K H a f) (s:SameT H H'):FrIs K H' a f:=
 let ⟨F,x,b,c,d,e⟩:=h; ⟨F,x.t s,b,c,AtVs.t d s,AtVs.t e s⟩
noncomputable def FrV (K:W.Frag) (H:Hp) (v:V) (f:AFr):Prop:=∃ a,v=.ref a∧FrIs K H a f
noncomputable def ThV (K:W.Frag) (H:Hp) (v:V) (t:Nat×List AV):Prop:=∃ e ia inner,v=.ref e∧SqT K H e [.int t.1,.ref ia]∧SqT K H ia inner∧AtVs K H inner t.2
theorem FrV.t {K:W.Frag} {H H':Hp} {v:V} {f:AFr} (h:FrV K H v f) (s:SameT H H'):FrV K H' v f:=let ⟨a,e,q⟩:=h; ⟨a,e,q.t s⟩
theorem ThV.t {K:W.Frag} {H H':Hp} {v:V} {t:Nat×List AV} (h:ThV K H v t) (s:SameT H H'):ThV K H' v t:=let ⟨e,ia,inner,a,b,c,d⟩:=h; ⟨e,ia,inner,a,SqT.t b s,SqT.t c s,AtVs.t d s⟩
noncomputable def EndIs (K:W.Frag) (H:Hp) (a:Addr):Mach.End→Prop
 | .val x=>∃ y,SqT K H a [.str "value",y]∧AtV K H y x
 | .thing h=>SqT K H a [.str "thing",.int h]∧h < 1000000
 | .dry=>SqT K H a [.str "dry"]
 | .deep=>SqT K H a [.str "deep"]
 | .great=>SqT K H a [.str "refused",.str "great"]
 | .nought=>SqT K H a [.str "refused",.str "nought"]
noncomputable def EndAt (K:W.Frag) (H:Hp) (v:V):Option Mach.End→Prop
 | none=>v=.non
 | some e=>∃ a,v=.ref a∧EndIs K H a e
theorem EndIs.t {K:W.Frag} {H H':Hp} {a:Addr} {e:Mach.End} (h:EndIs K H a e) (s:SameT H H'):EndIs K H' a e:=by
 cases e with
 | val x=>obtain ⟨y,p,q⟩:=h; exact ⟨y,SqT.t p s,AtV.t q s⟩
 | thing x=>exact ⟨SqT.t h.1 s,h.2⟩
 | _=>exact SqT.t h s
theorem EndAt.t {K:W.Frag} {H H':Hp} {v:V} {e:Option Mach.End} (h:EndAt K H v e) (s:SameT H H'):EndAt K H' v e:=by
 cases e with
 | none=>exact h
 | some e=>obtain ⟨a,p,q⟩:=h; exact ⟨a,p,q.t s⟩
structure MO where
 x:Addr
 dx:Addr
 B:Addr
 TT:Addr
 pl:Addr
 dp:Addr
 pd:Addr
 sk:Addr
 md:Addr
noncomputable def fsM (o:MO) (P:Mach.Prog) (e:V) (c l h r:Nat):List (Str×V):=[("blocks",.ref o.B),("house_tables",.ref o.TT),("most",.int P.most),("remembers",.bl P.rem),("places",.ref o.pl),("stacked",.ref o.sk),("made",.ref o.md),("ended",e),("call_count",.int c),("look_count",.int l),("hit_count",.int h),("row_count",.int r)]
structure MAt (CM CP:Addr) (K:W.Frag) (ex:Addr→Prop) (o:MO) (P:Mach.Prog) (s:MS) (H:Hp):Prop where
 ins:∃ e,H o.x=some (.ins CM o.dx (fsM o P e s.calls s.looks s.hits s.rows))∧EndAt K H e s.ended
 pr:PrAt K H o.B o.TT P
 plc:H o.pl=some (.ins CP o.dp [("by_site",.ref o.pd)])
 rep:Rep (fun a=>a=o.sk∨a=o.md∨ex a) H o.pd (s.looks+s.hits) s.mem
 stk:∃ ss,H o.sk=some (.lst ss)∧Paired (FrV K H) ss s.frames.reverse
 mad:∃ ms,H o.md=some (.lst ms)∧Paired (ThV K H) ms s.made
 nxp:o.x≠o.pl
 nsm:o.sk≠o.md
 nex:¬ ex o.x∧¬ ex o.pl∧¬ ex o.pd∧¬ ex o.sk∧¬ ex o.md
 exs:∀ a,ex a→H a≠none
structure Keep (ex:Addr→Prop) (H H':Hp):Prop where
 t:SameT H H'
 k:∀ b,ex b→H' b=H b
theorem Keep.trans {ex:Addr→Prop} {H H1 H2:Hp} (a:Keep ex H H1) (b:Keep ex H1 H2):Keep ex H H2:=⟨a.t.trans b.t,fun x h=>(b.k x h).trans (a.k x h)⟩
theorem Same.keep {ex:Addr→Prop} {H H':Hp} (s:Same H H') (h:∀ a,ex a→H a≠none):Keep ex H H':=⟨Same.t s,fun b hb=>by
 obtain ⟨u,hu⟩:=Option.ne_none_iff_exists'.mp (h b hb)
 rw [hu]; exact s _ _ hu⟩
section
variable {CM CP:Addr} {K:W.Frag} {ex:Addr→Prop} {o:MO} {P:Mach.Prog} {s:MS} {H H':Hp}
theorem MAt.same (M:MAt CM CP K ex o P s H) (e:Same H H'):MAt CM CP K ex o P s H' where
 ins:=let ⟨v,a,b⟩:=M.ins; ⟨v,e _ _ a,b.t (Same.t e)⟩
 pr:=M.pr.t (Same.t e)
 plc:=e _ _ M.plc
 rep:=M.rep.same e
 stk:=let ⟨ss,a,b⟩:=M.stk; ⟨ss,e _ _ a,Pd.imp (fun _ _ q=>q.t (Same.t e)) b⟩
 mad:=let ⟨ms,a,b⟩:=M.mad; ⟨ms,e _ _ a,Pd.imp (fun _ _ q=>q.t (Same.t e)) b⟩
 nxp:=M.nxp
 nsm:=M.nsm
 nex:=M.nex
 exs:=fun a h=>by
  obtain ⟨u,hu⟩:=Option.ne_none_iff_exists'.mp (M.exs a h)
  rw [e _ _ hu]; simp
theorem MAt.keepS (M:MAt CM CP K ex o P s H) (e:Same H H'):Keep ex H H':=Same.keep e M.exs
theorem MAt.t_ins (M:MAt CM CP K ex o P s H) (u:HO):SameT H (upd H o.x u):=let ⟨_,a,_⟩:=M.ins; Z2l u a J1z
theorem MAt.t_sk (M:MAt CM CP K ex o P s H) (u:HO):SameT H (upd H o.sk u):=let ⟨_,a,_⟩:=M.stk; Z2l u a Z2a
theorem MAt.t_md (M:MAt CM CP K ex o P s H) (u:HO):SameT H (upd H o.md u):=let ⟨_,a,_⟩:=M.mad; Z2l u a Z2a
theorem SqP.lst {H:Hp} {l:Addr} {ps:PL} (h:SqP H l ps):∃ rs,H l=some (.lst rs):=let ⟨rs,a,_⟩:=h; ⟨rs,a⟩
theorem Rep.u {hd:Addr→Prop} {H:Hp} {d y:Addr} {n:Nat} {m:Mem} {u:HO} (h:Rep hd H d n m) (v:HO) (hy:H y=some u) (nd:d≠y) (nt:(∀ xs,u≠.tup xs)∧∀ xs,u≠.lst xs):Rep hd (upd H y v) d n m:=by
 obtain ⟨kv,a,b,c⟩:=h
 refine ⟨kv,by rw [Z0h nd]; exact a,b,fun k=>(c k).imp fun l ps nl q=>?_⟩
 refine q.x (Z1c v) (fun z=>?_) (fun xs z=>by rw [hy] at z; cases z; exact nt.1 _ rfl)
 obtain ⟨rs,e⟩:=SqP.lst q
 rw [z,hy] at e; cases e; exact nt.2 _ rfl
theorem Rep.hd' {hd hd':Addr→Prop} {H:Hp} {d:Addr} {n:Nat} {m:Mem} (h:Rep hd H d n m) (f:∀ l rs,H l=some (.lst rs)→¬ hd l→¬ hd' l):Rep hd' H d n m:=by
 obtain ⟨kv,a,b,c⟩:=h
 refine ⟨kv,a,b,fun k=>?_⟩
 have:=c k
 cases e:m k with
 | none=>rw [e] at this; exact this
 | some ps=>
  rw [e] at this
  obtain ⟨l,x,y,z⟩:=this
  obtain ⟨rs,hr⟩:=SqP.lst z
  exact ⟨l,x,f l rs hr y,z⟩
theorem Rep.up {hd:Addr→Prop} {H:Hp} {d:Addr} {n n':Nat} {m:Mem} (h:Rep hd H d n m) (l:n≤n'):Rep hd H d n' m:=let ⟨kvs,a,b,c⟩:=h; ⟨kvs,a,Nat.le_trans b l,c⟩
theorem MAt.pdk (M:MAt CM CP K ex o P s H):∃ kvs,H o.pd=some (.dK kvs):=let ⟨kvs,a,_⟩:=M.rep; ⟨kvs,a⟩
theorem MAt.set {s':MS} {e:V} (M:MAt CM CP K ex o P s H) (hf:s'.frames=s.frames) (hm:s'.made=s.made) (hr:s.looks+s.hits≤s'.looks+s'.hits) (hmm:s'.mem=s.mem) (he:EndAt K H e s'.ended) :
  MAt CM CP K ex o P s' (upd H o.x (.ins CM o.dx (fsM o P e s'.calls s'.looks s'.hits s'.rows)))∧Keep ex H (upd H o.x (.ins CM o.dx (fsM o P e s'.calls s'.looks s'.hits s'.rows))):=by
 have t:=M.t_ins (.ins CM o.dx (fsM o P e s'.calls s'.looks s'.hits s'.rows))
 obtain ⟨v,a,b⟩:=M.ins
 obtain ⟨kvs,hk⟩:=M.pdk
 obtain ⟨ss,s1,s2⟩:=M.stk
 obtain ⟨ms,m1,m2⟩:=M.mad
 have nk:o.pd≠o.x:=Z1l hk a (fun z=>by cases z)
 have ns:o.sk≠o.x:=Z1l s1 a (fun z=>by cases z)
 have nm:o.md≠o.x:=Z1l m1 a (fun z=>by cases z)
 refine ⟨⟨⟨e,Z0e,he.t t⟩,M.pr.t t,by rw [Z0h (fun z=>M.nxp z.symm)]; exact M.plc,?_,⟨ss,by rw [Z0h ns]; exact s1,by rw [hf]; exact Pd.imp (fun _ _ q=>q.t t) s2⟩,⟨ms,by rw [Z0h nm]; exact m1,by rw [hm]; exact Pd.imp (fun _ _ q=>q.t t) m2⟩,M.nxp,M.nsm,M.nex,fun y hy=>?_⟩,t,fun y hy=>?_⟩
 ·rw [hmm]
  exact (M.rep.u _ a nk ⟨fun _ z=>(by cases z),fun _ z=>by cases z⟩).up hr
 ·rw [Z0h (show y≠o.x from fun z=>M.nex.1 (z▸hy))]; exact M.exs y hy
 ·rw [Z0h (show y≠o.x from fun z=>M.nex.1 (z▸hy))]
theorem MAt.frames {ss':List V} {fr:List AFr} (M:MAt CM CP K ex o P s H) (hs:Paired (FrV K H) ss' fr.reverse) :
  MAt CM CP K ex o P { s with frames:=fr } (upd H o.sk (.lst ss'))∧Keep ex H (upd H o.sk (.lst ss')):=by
 have t:=M.t_sk (.lst ss')
 obtain ⟨v,a,b⟩:=M.ins
 obtain ⟨kvs,hk⟩:=M.pdk
 obtain ⟨ss,s1,s2⟩:=M.stk
 obtain ⟨ms,m1,m2⟩:=M.mad
 have nk:o.pd≠o.sk:=Z1l hk s1 (fun z=>by cases z)
 have nx:o.x≠o.sk:=Z1l a s1 (fun z=>by cases z)
 have np:o.pl≠o.sk:=Z1l M.plc s1 (fun z=>by cases z)
 refine ⟨⟨⟨v,by rw [Z0h nx]; exact a,b.t t⟩,M.pr.t t,by rw [Z0h np]; exact M.plc,?_,⟨ss',Z0e,Pd.imp (fun _ _ q=>q.t t) hs⟩,⟨ms,by rw [Z0h (fun z=>M.nsm z.symm)]; exact m1,Pd.imp (fun _ _ q=>q.t t) m2⟩,M.nxp,M.nsm,M.nex,fun y hy=>?_⟩,t,fun y hy=>?_⟩
 ·exact M.rep.hd (Z1c _) (.inl rfl) nk (fun xs z=>by rw [s1] at z; cases z)
 ·rw [Z0h (show y≠o.sk from fun z=>M.nex.2.2.2.1 (z▸hy))]; exact M.exs y hy
 ·rw [Z0h (show y≠o.sk from fun z=>M.nex.2.2.2.1 (z▸hy))]
theorem MAt.things {ms':List V} {mm:List (Nat×List AV)} (M:MAt CM CP K ex o P s H) (hs:Paired (ThV K H) ms' mm) :
  MAt CM CP K ex o P { s with made:=mm } (upd H o.md (.lst ms'))∧Keep ex H (upd H o.md (.lst ms')):=by
 have t:=M.t_md (.lst ms')
 obtain ⟨v,a,b⟩:=M.ins
 obtain ⟨kvs,hk⟩:=M.pdk
 obtain ⟨ss,s1,s2⟩:=M.stk
 obtain ⟨ms,m1,m2⟩:=M.mad
 have nk:o.pd≠o.md:=Z1l hk m1 (fun z=>by cases z)
 have nx:o.x≠o.md:=Z1l a m1 (fun z=>by cases z)
 have np:o.pl≠o.md:=Z1l M.plc m1 (fun z=>by cases z)
 refine ⟨⟨⟨v,by rw [Z0h nx]; exact a,b.t t⟩,M.pr.t t,by rw [Z0h np]; exact M.plc,?_,⟨ss,by rw [Z0h M.nsm]; exact s1,Pd.imp (fun _ _ q=>q.t t) s2⟩,⟨ms',Z0e,Pd.imp (fun _ _ q=>q.t t) hs⟩,M.nxp,M.nsm,M.nex,fun y hy=>?_⟩,t,fun y hy=>?_⟩
 ·exact M.rep.hd (Z1c _) (.inr (.inl rfl)) nk (fun xs z=>by rw [m1] at z; cases z)
 ·rw [Z0h (show y≠o.md from fun z=>M.nex.2.2.2.2 (z▸hy))]; exact M.exs y hy
 ·rw [Z0h (show y≠o.md from fun z=>M.nex.2.2.2.2 (z▸hy))]
theorem MAt.mem {m':Mem} {n':Nat} (M:MAt CM CP K ex o P s H) (e:SameX o.pd H H') (r:Rep (fun a=>a=o.sk∨a=o.md∨ex a) H' o.pd n' m') (hn:n'≤s.looks+s.hits) :
  MAt CM CP K ex o P { s with mem:=m' } H'∧Keep ex H H':=by
 obtain ⟨v,a,b⟩:=M.ins
 obtain ⟨kvs,hk⟩:=M.pdk
 obtain ⟨ss,s1,s2⟩:=M.stk
 obtain ⟨ms,m1,m2⟩:=M.mad
 have t:SameT H H':=fun c xs=>⟨fun h=>e _ _ (Z1l h hk (fun z=>by cases z)) h,fun o h=>e _ _ (Z1l h hk (fun z=>by cases z)) h⟩
 refine ⟨⟨⟨v,e _ _ (Z1l a hk (fun z=>by cases z)) a,b.t t⟩,M.pr.t t,e _ _ (Z1l M.plc hk (fun z=>by cases z)) M.plc,r.up hn,⟨ss,e _ _ (Z1l s1 hk (fun z=>by cases z)) s1,Pd.imp (fun _ _ q=>q.t t) s2⟩,⟨ms,e _ _ (Z1l m1 hk (fun z=>by cases z)) m1,Pd.imp (fun _ _ q=>q.t t) m2⟩,M.nxp,M.nsm,M.nex,fun y hy=>?_⟩,t,fun y hy=>?_⟩
 ·obtain ⟨u,hu⟩:=Option.ne_none_iff_exists'.mp (M.exs y hy)
  rw [e _ _ (fun z=>M.nex.2.2.1 (z▸hy)) hu]; simp
 ·obtain ⟨u,hu⟩:=Option.ne_none_iff_exists'.mp (M.exs y hy)
  rw [hu]; exact e _ _ (fun z=>M.nex.2.2.1 (z▸hy)) hu
theorem MAt.ends {e:Mach.End} {a q:Addr} (M:MAt CM CP K ex o P s H) (he:EndIs K H a e) (hq:upd H o.x (.ins CM o.dx (fsM o P (.ref a) s.calls s.looks s.hits s.rows)) q=none) :
  MAt CM CP K ex { o with sk:=q } P (Mach.ends s e) (upd (upd (upd H o.x (.ins CM o.dx (fsM o P (.ref a) s.calls s.looks s.hits s.rows))) q (.lst [])) o.x (.ins CM o.dx (fsM { o with sk:=q } P (.ref a) s.calls s.looks s.hits s.rows))) ∧
   Keep ex H (upd (upd (upd H o.x (.ins CM o.dx (fsM o P (.ref a) s.calls s.looks s.hits s.rows))) q (.lst [])) o.x (.ins CM o.dx (fsM { o with sk:=q } P (.ref a) s.calls s.looks s.hits s.rows))):=by
 obtain ⟨M1,k1⟩:=M.set (s':={ s with ended:=some e }) (e:=.ref a) rfl rfl (Nat.le_refl _) rfl ⟨a,rfl,he⟩
 have s1:=Z0i hq (.lst [])
 have M2:=M1.same s1
 have k2:=M1.keepS s1
 have hql:upd (upd H o.x (.ins CM o.dx (fsM o P (.ref a) s.calls s.looks s.hits s.rows))) q (.lst []) q=some (.lst []):=Z0e
 have fr:∀ b u,upd H o.x (.ins CM o.dx (fsM o P (.ref a) s.calls s.looks s.hits s.rows)) b=some u→b≠q:=fun b u h=>Z0t h hq
 obtain ⟨v,x1,x2⟩:=M1.ins
 obtain ⟨ms,m1,m2⟩:=M1.mad
 obtain ⟨kvs,hk⟩:=M1.pdk
 have nmq:o.md≠q:=fr _ _ m1
 have nxq:o.x≠q:=fr _ _ x1
 have nex:∀ b,ex b→b≠q:=fun b hb=>by
  obtain ⟨u,hu⟩:=Option.ne_none_iff_exists'.mp (M1.exs b hb)
  exact fr _ _ hu
 have M3:MAt CM CP K ex { o with sk:=q } P { Mach.ends s e with ended:=some e } (upd (upd (upd H o.x (.ins CM o.dx (fsM o P (.ref a) s.calls s.looks s.hits s.rows))) q (.lst [])) o.x (.ins CM o.dx (fsM { o with sk:=q } P (.ref a) s.calls s.looks s.hits s.rows))):=by
  have t:=M2.t_ins (.ins CM o.dx (fsM { o with sk:=q } P (.ref a) s.calls s.looks s.hits s.rows))
  obtain ⟨w,y1,y2⟩:=M2.ins
  obtain ⟨ms',m1',m2'⟩:=M2.mad
  obtain ⟨kvs',hk'⟩:=M2.pdk
  have nk:o.pd≠o.x:=Z1l hk' y1 (fun z=>by cases z)
  have nm:o.md≠o.x:=Z1l m1' y1 (fun z=>by cases z)
  refine ⟨⟨.ref a,Z0e,⟨a,rfl,((he.t k1.t).t (Same.t s1)).t t⟩⟩,M2.pr.t t,by show upd _ _ _ o.pl=_; rw [Z0h (fun z=>M.nxp z.symm)]; exact M2.plc,?_,⟨[],by show upd _ _ _ q=_; rw [Z0h (fun z=>nxq z.symm)]; exact hql,.nil⟩,⟨ms',by show upd _ _ _ o.md=_; rw [Z0h nm]; exact m1',Pd.imp (fun _ _ q=>q.t t) m2'⟩,M.nxp,fun z=>nmq z.symm,⟨M.nex.1,M.nex.2.1,M.nex.2.2.1,fun z=>nex _ z rfl,M.nex.2.2.2.2⟩,fun y hy=>?_⟩
  ·refine Rep.u ?_ _ y1 nk ⟨fun _ z=>(by cases z),fun _ z=>by cases z⟩
   have r1:Rep (fun a=>a=q∨a=o.md∨ex a) (upd H o.x (.ins CM o.dx (fsM o P (.ref a) s.calls s.looks s.hits s.rows))) o.pd (s.looks+s.hits) s.mem:=
    M1.rep.hd' fun l rs hl n z=>by
     rcases z with z | z | z
     ·exact fr _ _ hl z
     ·exact n (.inr (.inl z))
     ·exact n (.inr (.inr z))
   exact r1.same s1
  ·rw [Z0h (show y≠o.x from fun z=>M.nex.1 (z▸hy))]; exact M2.exs y hy
 refine ⟨M3,(k1.trans k2).trans ⟨M2.t_ins _,fun y hy=>by rw [Z0h (show y≠o.x from fun z=>M.nex.1 (z▸hy))]⟩⟩
end
end MM
end
section
namespace L2
open PySem PySem.Spec PyProof.Rows
def J1M (K:W.Frag):List V→Hp→VK→Prop:=fun xs H Q=>∃ p ys,xs=[V.ref p]∧((SqL K H p ys∧∀ (l:Addr),H l=none→Q (V.ref l) (upd H l (HO.tup ys)))∨(SqT K H p ys∧Q (V.ref p) H))
theorem J3F {K:W.Frag} {xs:List V} {H:Hp} {Q:VK}:J1M K xs H Q=(∃ p ys,xs=[V.ref p]∧((SqL K H p ys∧∀ (l:Addr),H l=none→Q (V.ref l) (upd H l (HO.tup ys)))∨(SqT K H p ys∧Q (V.ref p) H))):=rfl
end L2
end
section
namespace L2
open PySem PySem.Spec PyProof.Rows PySem.SeqAt
theorem J5h {td ty:TE} {σ:St} {H:Hp} {Q:VK}:J4p td ty σ H Q=(td σ H fun x H1=>ty σ H1 fun y H2=>∃ a v,x=.ref a∧DGet H2 a y (some v)∧Q v H2):=rfl
theorem J4Z {td ty tv:TE} {D:Ends} {σ:St} {H:Hp}:J4A td ty tv D σ H=(tv σ H fun v H1=>td σ H1 fun x H2=>ty σ H2 fun y H3=>∃ a H4,x=.ref a∧DPut H3 a y v H4∧D.nx σ H4):=rfl
theorem J4K {z0:St} {H:Hp} {Q:VK}:J1x  z0 H Q=(∀ p,H p=none→Q (.ref p) (upd H p (.dK []))):=rfl
theorem J4f {td ty tx:TE} {σ:St} {H:Hp} {Q:VK}:J1Q td ty tx σ H Q=(td σ H fun x H1=>∃ a,x=.ref a∧IsD H1 a∧ty σ H1 fun y H2=>tx σ H2 fun z H3=>∃ o,DGet H3 a y o∧Q (o.getD z) H3):=rfl
end L2
end
section
namespace L2
open PySem PySem.Spec PyProof.Rows PySem.SeqAt
theorem J5v {wi:TI} {nl:List (Option Nat)} {g:TG} {tc:TT} {te:TE} {σ:St} {H:Hp} {Q:VK}:Z7J wi nl g tc te σ H Q=(wi σ H fun J H1=>∀ D,H1 D=none→Z3P J g tc te D Q (stOf nl σ) (upd H1 D (.lst []))):=rfl
theorem J5e {i:Nat} {t:TE} {D:Ends} {σ:St} {H:Hp}:J2U i t D σ H=(t σ H fun v H'=>D.nx (σ.set i (some v)) H'):=rfl
theorem J6B {K:W.Frag} {x:V} {y:V} {H:Hp} {Q:VK}:rEqD K x y H Q=(∃ d e,RdD K H x d∧RdD K H y e∧shaped d=true∧shaped e=true∧Q (.bl (PyData.eqv d e)) H):=rfl
theorem J6o {K:W.Frag} {x:V} {y:V} {H:Hp} {Q:VK}:rNeD K x y H Q=(∃ d e,RdD K H x d∧RdD K H y e∧shaped d=true∧shaped e=true∧Q (.bl (!PyData.eqv d e)) H):=rfl
theorem J3A {K:W.Frag} {xs:List V} {H:Hp} {Q:VK}:Z4k K xs H Q=(∃ a d,xs=[.ref a]∧RdD K H (.ref a) d∧d.showable=true∧d.hasDict=false∧d.depth≤60∧d.shown.length≤sizeLine∧Q (.str d.shown) H):=rfl
end L2
end
section
namespace L2
open PySem PySem.Spec PyProof.Rows
structure J0t (P:Program) (w:World) (K:W.Frag) (a:Addr) (kvs:List (Key×V)):Prop where
 of:∀ h:Heap,K.In h→∃ vs,KV kvs vs∧h.DictOf (Z0Z P w) a vs
 ns:(a == sysModules)=false
section
variable {X:Cx} {o i:Expr} {ty:TE} {pos:Pos} {a:Addr} {kvs:List (Key×V)}
def tMIn (kvs:List (Key×V)) (ty:TE):TE:=fun σ H Q=>ty σ H fun y H1=>∃ k,y=kV k∧Q (.bl (valV kvs k).isSome) H1
def J2I (kvs:List (Key×V)) (ty:TE):TE:=fun σ H Q=>ty σ H fun y H1=>∃ k v,y=kV k∧valV kvs k=some v∧Q v H1
theorem J6a {kvs:List (Key×V)} {ty:TE} {σ:St} {H:Hp} {Q:VK}:tMIn kvs ty σ H Q=(ty σ H fun y H1=>∃ k,y=kV k∧Q (.bl (valV kvs k).isSome) H1):=rfl
theorem J5A {kvs:List (Key×V)} {ty:TE} {σ:St} {H:Hp} {Q:VK}:J2I kvs ty σ H Q=(ty σ H fun y H1=>∃ k v,y=kV k∧valV kvs k=some v∧Q v H1):=rfl
theorem J4h (M:J0t X.prog X.w X.K a kvs) (hi:PE X i ty) (ho:PE X o (tC (.ref a))):PC X .In i o (tMIn kvs ty):=by
 intro pins s σ H Q I h
 refine thn (hi pins s σ H _ I h) fun iv s1 ⟨y,H1,I1,ry,k,ey,q1⟩=>thn (ho pins s1 σ H1 (fun v H'=>v=.ref a∧Q (.bl (valV kvs k).isSome) H') I1 ⟨rfl,q1⟩) fun u s2 ⟨x,H2,I2,rx,ex,q2⟩=>?_
 subst ex ey
 obtain rfl:u=Value.ref a:=rx
 obtain ⟨vs,rel,dd⟩:=M.of _ I2.kIn
 refine wpAny_in_of (Z6x ry) M.ns dd.mapOf ?_
 rw [← (rel.val k).isSome_eq]
 exact ⟨.bl _,H2,I2.tok _,rfl,q2⟩
theorem J2H (M:J0t X.prog X.w X.K a kvs) (ho:PE X o (tC (.ref a))) (hi:PE X i ty) (hs:NoSl i):PE X (.Subscript o i pos) (J2I kvs ty):=by
 intro pins s σ H Q I h
 refine Z8I PySem.F.slot_dict_getitem.lookup hs (thn (ho pins s σ H (fun v H'=>v=.ref a∧J2I kvs ty σ H' Q) I ⟨rfl,h⟩) fun u s1 ⟨x,H1,I1,rx,ex,q1⟩=>thn (hi pins s1 σ H1 _ I1 q1) fun iv s2 hz_=>?_)
 obtain ⟨y,H2,I2,ry,k,v,ey,l,q2⟩:=hz_
 subst ex ey
 obtain rfl:u=Value.ref a:=rx
 obtain ⟨vs,rel,dd⟩:=M.of _ I2.kIn
 obtain ⟨w',hw,rw'⟩:=RelO.some_of (v:=v) (o:=valueAt vs k) (by rw [← l]; exact rel.val k)
 exact ⟨dd.typeIs,wpAny_getItem_of (Z6x ry) dd.mapOf hw ⟨v,H2,I2.tok _,rw',q2⟩⟩
end
inductive Ent (w:World):List DictEntry→List (Key×V)→Prop
 | nil:Ent w [] []
 | cons {e:DictEntry} {k:Key} {v:V} {es:List DictEntry} {kvs:List (Key×V)}:Z6B k e.key=true→e.hash=keyH w k→RelV v e.val→Ent w es kvs→Ent w (e::es) ((k,v)::kvs)
theorem Ent.of {P:Program} {w:World}:∀ {es:List DictEntry} {kvs:List (Key×V)},Ent w es kvs→∃ vs,KV kvs vs∧Pairs (Z0Z P w) es vs∧vs.map (·.1)=kvs.map (·.1)∧∀ e∈es,∃ k,(Z0Z P w).is k e.key=true∧e.hash=(Z0Z P w).hash k
 | _,_,.nil=>⟨[],.nil,.nil,rfl,fun _ h=>by cases h⟩
 | _,_,.cons (e:=e) (k:=k) (v:=v) h1 h2 h3 t=>by
  obtain ⟨vs,a,b,c,d⟩:=Ent.of (P:=P) t
  refine ⟨(k,e.val)::vs,.cons ⟨rfl,h3⟩ a,.cons h1 rfl b,by rw [List.map_cons,List.map_cons,c],fun e' he'=>?_⟩
  rcases List.mem_cons.mp he' with z | z
  ·subst z; exact ⟨k,h1,h2⟩
  ·exact d e' z
theorem J0r {P:Program} {w:World} {K:W.Frag} {a:Addr} {o:Obj} {es:Array DictEntry} {ep:Nat} {kvs:List (Key×V)} (l:K.lookup a=some o) (e:o.ExactDict) (d:o.data=.dict es ep) (p:Ent w es.toList kvs) (nd:(kvs.map (·.1)).Nodup) (ns:(a == sysModules)=false):J0t P w K a kvs:=by
 obtain ⟨vs,h1,h2,h3,h4⟩:=Ent.of (P:=P) p
 exact ⟨fun h hk=>⟨vs,h1,o,es,ep,hk a o l,e,d,fun x hx=>h4 x (by simpa using hx),h2,by rw [h3]; exact nd⟩,ns⟩
end L2
end
section
namespace L2
open PySem PySem.Spec PyProof.Rows
def Z9D (H H':Hp):Prop:=∀ b o,(∀ xs,o≠.lst xs)→H b=some o→H' b=some o
theorem Z5F {te:TE} {Q:VK} {H:Hp} {D:Addr} {n:Nat} {σ0:St} (v0:Option V) (rest:St) (R:Nat→V→Hp→Prop) (mono:∀ j v H1 H2,R j v H1→Z9D H1 H2→R j v H2) (e0:σ0=v0::rest) (hD:H D=none) (hz:n≤sizeLine)
  (he:∀ i,i < n→∀ H1 (K':VK),Same H H1→(∀ v H2,Same H1 H2→R i v H2→K' v H2)→te (some (.int i)::rest) H1 K')
  (hQ:∀ vs H',Same H H'→H' D=some (.lst vs)→vs.length=n→(∀ j v,vs[j]?=some v→R j v H')→Q (.ref D) H'):Z3P (Itr 0 n) (Z3A 0) Z3S te D Q σ0 (upd H D (.lst [])):=by
 refine ⟨fun i m σ' H'=>m=n - i∧i≤n∧(∃ v,σ'=v::rest)∧Same H H'∧∃ vs,H' D=some (.lst vs)∧vs.length=i∧∀ j v,vs[j]?=some v→R j v H',⟨n,by simp,Nat.zero_le _,⟨v0,e0⟩,Z0i hD _,[],Z0e,rfl,fun j v h=>by simp at h⟩,?_⟩
 rintro i m σ' H' ⟨rfl,hi,⟨v,rfl⟩,s1,vs,hv,hl,hr⟩
 by_cases hlt:i < n
 ·refine .inr ⟨hlt,fun σ2 H2=>(∃ v,σ2=v::rest)∧Same H H2∧∃ vs,H2 D=some (.lst vs)∧vs.length=i+1∧∀ j v,vs[j]?=some v→R j v H2,fun σ2 H2 ⟨a,b,c⟩=>⟨n - (i+1),by omega,rfl,hlt,a,b,c⟩,fun x H2 hx=>?_⟩
  obtain ⟨e1,e2⟩:=hx
  subst e1 e2
  unfold Z3A Z3S
  rw [List.set_cons_zero,Int.zero_add]
  refine iteT (he i hlt H2 _ s1 fun v H3 s3 hR=>?_)
  have h3:=s3 _ _ hv
  have sn:Z9D H3 (upd H3 D (.lst (vs++[v]))):=fun b o ho hb=>by
   rw [Z0h (fun z=>by rw [z,h3] at hb; cases hb; exact ho _ rfl)]
   exact hb
  refine ⟨vs,h3,by omega,⟨_,rfl⟩,fun b o hb=>?_,_,Z0e,by rw [List.length_append,hl]; rfl,fun j u hj=>?_⟩
  ·rw [Z0h (Z0t hb hD)]
   exact s3 _ _ (s1 _ _ hb)
  ·by_cases hj':j < vs.length
   ·rw [List.getElem?_append_left hj'] at hj
    exact mono j u _ _ (mono j u _ _ (hr j u hj) fun b o _ hb=>s3 b o hb) sn
   ·rw [List.getElem?_append_right (by omega)] at hj
    have ej:j - vs.length=0:=by
     have:=(List.getElem?_eq_some_iff.mp hj).1
     simp at this
     omega
    rw [ej] at hj
    cases hj
    have:j=i:=by omega
    subst this
    exact mono _ _ _ _ hR sn
 ·have e:i=n:=by omega
  subst e
  exact .inl ⟨Nat.le_refl _,hQ vs H' s1 hv hl hr⟩
end L2
end
section
namespace L2
open PySem PySem.Spec PyProof.Rows
theorem Z7S {J:It} {te:TE} {Q:VK} {H:Hp} {D:Addr} {ys:List V} {σ0:St} (v0:Option V) (rest:St) (R:Nat→V→Hp→Prop) (mono:∀ j v H1 H2,R j v H1→Z9D H1 H2→R j v H2) (e0:σ0=v0::rest) (hD:H D=none) (hz:ys.length≤sizeLine)
  (j1:∀ i H1,Same H H1→i < ys.length→J.go i H1) (j2:∀ i H1 x H2,Same H H1→J.yld i H1 x H2→H2=H1∧ys[i]?=some x) (j3:∀ H1,Same H H1→J.stop ys.length H1)
  (he:∀ i y,ys[i]?=some y→∀ H1 (K':VK),Same H H1→(∀ v H2,Same H1 H2→R i v H2→K' v H2)→te (some y::rest) H1 K')
  (hQ:∀ vs H',Same H H'→H' D=some (.lst vs)→vs.length=ys.length→(∀ j v,vs[j]?=some v→R j v H')→Q (.ref D) H'):Z3P J (Z3A 0) Z3S te D Q σ0 (upd H D (.lst [])):=by
 refine ⟨fun i m σ' H'=>m=ys.length - i∧i≤ys.length∧(∃ v,σ'=v::rest)∧Same H H'∧∃ vs,H' D=some (.lst vs)∧vs.length=i∧∀ j v,vs[j]?=some v→R j v H',⟨ys.length,by simp,Nat.zero_le _,⟨v0,e0⟩,Z0i hD _,[],Z0e,rfl,fun j v h=>by simp at h⟩,?_⟩
 rintro i m σ' H' ⟨rfl,hi,⟨v,rfl⟩,s1,vs,hv,hl,hr⟩
 by_cases hlt:i < ys.length
 ·refine .inr ⟨j1 i H' s1 hlt,fun σ2 H2=>(∃ v,σ2=v::rest)∧Same H H2∧∃ vs,H2 D=some (.lst vs)∧vs.length=i+1∧∀ j v,vs[j]?=some v→R j v H2,fun σ2 H2 ⟨a,b,c⟩=>⟨ys.length - (i+1),by omega,rfl,hlt,a,b,c⟩,fun x H2 hx=>?_⟩
  obtain ⟨e1,e2⟩:=j2 i H' x H2 s1 hx
  subst e1
  unfold Z3A Z3S
  rw [List.set_cons_zero]
  refine iteT (he i x e2 H2 _ s1 fun v H3 s3 hR=>?_)
  have h3:=s3 _ _ hv
  have sn:Z9D H3 (upd H3 D (.lst (vs++[v]))):=fun b o ho hb=>by
   rw [Z0h (fun z=>by rw [z,h3] at hb; cases hb; exact ho _ rfl)]
   exact hb
  refine ⟨vs,h3,by omega,⟨_,rfl⟩,fun b o hb=>?_,_,Z0e,by rw [List.length_append,hl]; rfl,fun j u hj=>?_⟩
  ·rw [Z0h (Z0t hb hD)]
   exact s3 _ _ (s1 _ _ hb)
  ·by_cases hj':j < vs.length
   ·rw [List.getElem?_append_left hj'] at hj
    exact mono j u _ _ (mono j u _ _ (hr j u hj) fun b o _ hb=>s3 b o hb) sn
   ·rw [List.getElem?_append_right (by omega)] at hj
    have ej:j - vs.length=0:=by
     have:=(List.getElem?_eq_some_iff.mp hj).1
     simp at this
     omega
    rw [ej] at hj
    cases hj
    have:j=i:=by omega
    subst this
    exact mono _ _ _ _ hR sn
 ·have e:i=ys.length:=by omega
  subst e
  exact .inl ⟨j3 _ s1,hQ vs H' s1 hv hl hr⟩
theorem Z4N {K:W.Frag} {a:Addr} {te:TE} {Q:VK} {H:Hp} {D:Addr} {ys:List V} {σ0:St} (v0:Option V) (rest:St) (R:Nat→V→Hp→Prop) (mono:∀ j v H1 H2,R j v H1→Z9D H1 H2→R j v H2) (e0:σ0=v0::rest) (hD:H D=none) (hz:ys.length≤sizeLine) (ha:∀ H1,Same H H1→SqL K H1 a ys)
  (he:∀ i y,ys[i]?=some y→∀ H1 (K':VK),Same H H1→(∀ v H2,Same H1 H2→R i v H2→K' v H2)→te (some y::rest) H1 K')
  (hQ:∀ vs H',Same H H'→H' D=some (.lst vs)→vs.length=ys.length→(∀ j v,vs[j]?=some v→R j v H')→Q (.ref D) H'):Z3P (Itl K a) (Z3A 0) Z3S te D Q σ0 (upd H D (.lst [])):=
 Z7S v0 rest R mono e0 hD hz (fun i H1 s h=>⟨ys,ys[i],ha H1 s,List.getElem?_eq_getElem h⟩) (fun i H1 x H2 s h=>⟨h.1,h.2 ys (ha H1 s)⟩) (fun H1 s=>⟨ys,ha H1 s,Nat.le_refl _⟩) he hQ
end L2
end
section
namespace L2
open PySem PySem.Spec PyProof.Rows
end L2
end
section
namespace L2
open PySem PySem.Spec PyProof.Rows
def IsK (K:W.Frag):Prop:=True
def Ob (H:Hp) (a:Addr) (o:HO):Prop:=H a=some o
section
variable {K:W.Frag} {H H' H1 H2:Hp} {a b p:Addr} {o u:HO} {xs ys:List V}
theorem J5P:Ob H a o=(H a=some o):=rfl
grind_pattern J5P=>Ob H a o
theorem Ob.new:Ob (upd H p o) p o:=Z0e
grind_pattern Ob.new=>upd H p o
theorem Ob.same (h:Ob H a o) (s:Same H H'):Ob H' a o:=s _ _ h
grind_pattern Ob.same=>Ob H a o,Same H H'
theorem g_su (h:H p=none):Same H (upd H p o):=Z0i h o
grind_pattern g_su=>upd H p o
theorem g_st (h:Same H H1) (h':Same H1 H2):Same H H2:=h.trans h'
grind_pattern g_st=>Same H H1,Same H1 H2
theorem g_sT (h:SqT K H a xs) (s:Same H H'):SqT K H' a xs:=h.same s
grind_pattern g_sT=>SqT K H a xs,Same H H'
theorem g_sL (h:SqL K H a xs) (s:Same H H'):SqL K H' a xs:=h.same s
grind_pattern g_sL=>SqL K H a xs,Same H H'
theorem g_nT (k:IsK K) (h:Ob H a (.tup xs)):SqT K H a xs:=SqT.of h
grind_pattern g_nT=>IsK K,Ob H a (.tup xs)
theorem g_nL (k:IsK K) (h:Ob H a (.lst xs)):SqL K H a xs:=SqL.of h
grind_pattern g_nL=>IsK K,Ob H a (.lst xs)
end
section
variable {α:Type} {x y z u v:α} {xs:List α}
theorem ix2:atI (x::y::z::xs) 2=some z:=by
 have:((2:Int) < (xs.length:Int)+1+1+1):=by omega
 simp [atI,ixN,this]
theorem ix3:atI (x::y::z::u::xs) 3=some u:=by
 have:((3:Int) < (xs.length:Int)+1+1+1+1):=by omega
 simp [atI,ixN,this]
end
end L2
end
section
namespace Mach
theorem Z4S {α:Type} (p:α→Bool):∀ l:List α,(l.filter p).length+(l.filter fun x=>!p x).length=l.length
 | []=>rfl
 | x::l=>by
  have ih:=Z4S p l
  cases e:p x with
  | true=>rw [List.filter_cons_of_pos e,List.filter_cons_of_neg (by rw [e]; decide),List.length_cons,List.length_cons,Nat.add_right_comm,ih]
  | false=>rw [List.filter_cons_of_neg (by rw [e]; decide),List.filter_cons_of_pos (by rw [e]; rfl),List.length_cons,List.length_cons,← Nat.add_assoc,ih]
structure OwnS (f:AFr) (r:Row) (g:AFr):Prop where
 n:g.n=f.n
 sl:g.sl.length=f.sl.length
 st:g.st.length≤f.st.length+1
 pc:∃ k,g.pc=f.pc+1+k∧(k=0∨r=.unl k∨r=.skip k)
theorem Z9Q {f g:AFr} {made:List (Nat×List AV)} {r:Row} (e:own f made r=some (.inl g)):OwnS f r g:=by
 obtain ⟨n,pc,sl,st⟩:=f
 have z:∀ {sl' st':List AV} {st:List AV} {r:Row},sl'.length=sl.length→st'.length≤st.length+1→OwnS ⟨n,pc,sl,st⟩ r ⟨n,pc+1,sl',st'⟩:=fun a b=>⟨rfl,a,b,0,rfl,.inl rfl⟩
 cases r with
 | push v=>cases e; exact z rfl (Nat.le_refl _)
 | load i=>
  obtain ⟨v,_,e⟩:=Option.map_eq_some_iff.mp e
  cases e; exact z rfl (Nat.le_refl _)
 | nt=>
  cases st with
  | nil=>cases e
  | cons v st=>
   cases v with
   | bl b=>cases e; exact z rfl (Nat.le_succ _)
   | _=>cases e
 | get pl=>
  cases st with
  | nil=>cases e
  | cons v st=>
   cases v with
   | th k=>
    obtain ⟨t,_,e⟩:=Option.bind_eq_some_iff.mp e
    obtain ⟨v,_,e⟩:=Option.map_eq_some_iff.mp e
    cases e; exact z rfl (Nat.le_succ _)
   | _=>cases e
 | keep i=>
  cases st with
  | nil=>cases e
  | cons v st=>
   change (if i < sl.length then _ else _)=_ at e
   split at e
   ·cases e; exact z (List.length_set ..) (Nat.le_add_right _ 2)
   ·cases e
 | drop=>
  cases st with
  | nil=>cases e
  | cons v st=>cases e; exact z rfl (Nat.le_add_right _ 2)
 | skip k=>cases e; exact ⟨rfl,rfl,Nat.le_succ _,k,rfl,.inr (.inr rfl)⟩
 | unl k=>
  cases st with
  | nil=>cases e
  | cons v st=>
   cases v with
   | bl b=>
    cases b with
    | true=>cases e; exact z rfl (Nat.le_add_right _ 2)
    | false=>cases e; exact ⟨rfl,rfl,Nat.le_add_right _ 2,k,rfl,.inr (.inl rfl)⟩
   | _=>cases e
 | two g'=>
  cases st with
  | nil=>cases e
  | cons y st=>
   cases st with
   | nil=>cases e
   | cons x st=>
    obtain ⟨r,_,e⟩:=Option.map_eq_some_iff.mp e
    cases r with
    | inl v=>cases e; exact z rfl (Nat.le_add_right _ 2)
    | inr q=>cases e
 | _=>cases e
inductive EnS (P:Prog) (s:MS) (f:AFr) (fs:List AFr) (b m:Nat):MS→Prop
 | dry:EnS P s f fs b m (ends s .dry)
 | deep:EnS P s f fs b m (ends { s with calls:=s.calls+1 } .deep)
 | go (k:Blk):P.blocks[b]?=some k→m≤f.st.length→m≤k.size→fs.length+1≤40 →
  EnS P s f fs b m { s with calls:=s.calls+1,frames:=⟨b,0,(f.st.take m).reverse++List.replicate (k.size - m) .non,[]⟩::{ f with pc:=f.pc+1,st:=f.st.drop m }::fs }
theorem Z3Z {P:Prog} {s s':MS} {f:AFr} {fs:List AFr} {b m:Nat} (e:enter P s f fs b m=some s'):EnS P s f fs b m s':=by
 unfold enter at e
 split at e
 ·cases e; exact .dry
 split at e
 ·cases e; exact .deep
 rename_i h40
 split at e
 ·rename_i hl
  obtain ⟨k,hk,e⟩:=Option.bind_eq_some_iff.mp e
  split at e
  ·rename_i hm
   cases e; exact .go k hk hl hm (Nat.le_of_not_lt h40)
  ·cases e
 ·cases e
theorem Z4e {P:Prog} {s s':MS} {h si w b:Nat} (e:found P s h si w=some (b,s')):∃ l g m,s'={ s with looks:=l,hits:=g,mem:=m }∧l+g=s.looks+s.hits+1∧(P.rem=false→m=s.mem) ∧
  (m=s.mem∨m=updM s.mem si ((((h:Int),(b:Int))::getP s.mem si).take 2)∨m=updM s.mem si (seen (getP s.mem si) h++Z0K (getP s.mem si) h)):=by
 unfold found at e
 split at e
 ·rename_i hr
  split at e
  ·cases e; exact ⟨_,_,_,rfl,rfl,fun z=>(by rw [z] at hr; cases hr),.inr (.inr rfl)⟩
  ·obtain ⟨_,_,e⟩:=Option.map_eq_some_iff.mp e
   cases e; exact ⟨_,_,_,rfl,Nat.add_right_comm _ _ _,fun z=>(by rw [z] at hr; cases hr),.inr (.inl rfl)⟩
 ·rename_i hr
  obtain ⟨_,_,e⟩:=Option.map_eq_some_iff.mp e
  cases e; exact ⟨_,_,_,rfl,Nat.add_right_comm _ _ _,fun _=>rfl,.inl rfl⟩
inductive RS (P:Prog) (s:MS) (f:AFr) (fs:List AFr) (r:Row):MS→Prop
 | own (g:AFr):OwnS f r g→RS P s f fs r { s with frames:=g::fs }
 | ends (e:End):RS P s f fs r (ends s e)
 | make (h m:Nat):r=.make h m→m≤f.st.length→RS P s f fs r { s with made:=s.made++[(h,(f.st.take m).reverse)],frames:={ f with pc:=f.pc+1,st:=.th s.made.length::f.st.drop m }::fs }
 | put (v x:AV) (st:List AV) (k pl:Nat) (t:Nat×List AV):f.st=v::x::st→s.made[k]?=some t→RS P s f fs r { s with made:=s.made.set k (t.1,t.2.set pl v),frames:={ f with pc:=f.pc+1,st:=v::st }::fs }
 | call (h si w b m:Nat) (s1:MS) {s':MS}:r=.call si w m→found P s h si w=some (b,s1)→EnS P s1 f fs b m s'→RS P s f fs r s'
 | strt (b m:Nat) {s':MS}:r=.straight b m→EnS P s f fs b m s'→RS P s f fs r s'
 | back (v:AV) (g:AFr) (gs:List AFr):fs=g::gs→RS P s f fs r { s with frames:={ g with st:=v::g.st }::gs }
theorem Z9O {P:Prog} {s s':MS} {f:AFr} {fs:List AFr} {r:Row} (e:rowM P s f fs r=some s'):RS P s f fs r s':=by
 have own_:∀ {r'},Option.map (fun o=>match o with | .inl f'=>({ s with frames:=f'::fs }:MS) | .inr e=>Mach.ends s e) (own f s.made r')=some s'→RS P s f fs r' s':=by
  intro r' e2
  obtain ⟨o,h,e2⟩:=Option.map_eq_some_iff.mp e2
  cases o with
  | inl g=>cases e2; exact .own g (Z9Q h)
  | inr x=>cases e2; exact .ends x
 obtain ⟨n,pc,sl,st⟩:=f
 cases r with
 | make h m=>
  change (if m≤st.length then _ else _)=_ at e
  split at e
  ·rename_i hm
   cases e; exact .make h m rfl hm
  ·cases e
 | put pl=>
  cases st with
  | nil=>cases e
  | cons v st=>
   cases st with
   | nil=>cases e
   | cons x st=>
    cases x with
    | th k=>
     obtain ⟨t,ht,e⟩:=Option.bind_eq_some_iff.mp e
     split at e
     ·cases e; exact .put v _ st k pl t rfl ht
     ·cases e
    | _=>cases e
 | call si w m=>
  change (match (st.take m).reverse with | .th k::_=>if m≤st.length then (s.made[k]?).bind fun t=>(found P s t.1 si w).bind fun r=>enter P r.2 ⟨n,pc,sl,st⟩ fs r.1 m else none | _=>none)=_ at e
  generalize (st.take m).reverse=q at e
  cases q with
  | nil=>cases e
  | cons x q=>
   cases x with
   | th k=>
    change (if m≤st.length then _ else _)=_ at e
    split at e
    ·obtain ⟨t,_,e⟩:=Option.bind_eq_some_iff.mp e
     obtain ⟨⟨b,s1⟩,h,e⟩:=Option.bind_eq_some_iff.mp e
     exact .call t.1 si w b m s1 rfl h (Z3Z e)
    ·cases e
   | _=>cases e
 | straight b m=>exact .strt b m rfl (Z3Z e)
 | back=>
  cases st with
  | nil=>cases e
  | cons v st=>
   cases fs with
   | nil=>
    cases v with
    | th k=>
     obtain ⟨t,_,e⟩:=Option.map_eq_some_iff.mp e
     cases e; exact .ends _
    | _=>cases e; exact .ends _
   | cons g gs=>cases e; exact .back v g gs rfl
 | push v=>exact own_ (r':=.push v) e
 | skip n=>exact own_ (r':=.skip n) e
 | _=>exact own_ e
theorem Z4J {P:Prog} {s s':MS} (e:step P s=some s'):∃ f fs r,s.ended=none∧s.frames=f::fs∧row? P f=some r∧RS P { s with rows:=s.rows+1 } f fs r s':=by
 obtain ⟨fr,made,en,c,l,hh,rows,mem⟩:=s
 cases en with
 | some _=>cases e
 | none=>
  cases fr with
  | nil=>cases e
  | cons f fs=>
   obtain ⟨r,hr,e⟩:=Option.bind_eq_some_iff.mp e
   exact ⟨f,fs,r,rfl,rfl,hr,Z9O e⟩
end Mach
end
section
namespace Mach
structure Sz (n:Nat) (s:MS):Prop where
 fr:∀ f∈s.frames,f.st.length≤n∧f.sl.length < 900
 fl:s.frames.length≤n+1
 md:s.made.length≤n
 mi:∀ t∈s.made,t.2.length≤n∧t.1 < 1000
 lh:s.looks+s.hits≤n
 mm:∀ k,(getP s.mem k).length≤2∧∀ p∈getP s.mem k,0≤p.2
structure PSz (P:Prog):Prop where
 bk:∀ b∈P.blocks,b.size < 900
 mkh:∀ b∈P.blocks,∀ r∈b.rows,∀ h m,r=.make h m→h < 1000
theorem Sz.fr' {n:Nat} {s:MS} {f:AFr} {fs:List AFr} (h:Sz n s) (e:s.frames=f::fs):f.st.length≤n∧f.sl.length < 900:=h.fr f (by rw [e]; exact List.mem_cons_self)
theorem Sz.rest {n:Nat} {s:MS} {f:AFr} {fs:List AFr} (h:Sz n s) (e:s.frames=f::fs):(∀ g∈fs,g.st.length≤n∧g.sl.length < 900)∧fs.length≤n:=by
 refine ⟨fun g hg=>h.fr g (by rw [e]; exact List.mem_cons_of_mem _ hg),?_⟩
 have:=h.fl
 rw [e,List.length_cons] at this
 omega
theorem Sz.fram {n:Nat} {s:MS} {g:AFr} {fs:List AFr} {k:Nat} (h:Sz n s) (hg:g.st.length≤n+1∧g.sl.length < 900) (hr:(∀ g∈fs,g.st.length≤n∧g.sl.length < 900)∧fs.length≤n):Sz (n+1) { s with rows:=k,frames:=g::fs } where
 fr:=fun f hf=>(List.mem_cons.mp hf).elim (fun e=>e▸hg) fun hf=>⟨Nat.le_succ_of_le (hr.1 f hf).1,(hr.1 f hf).2⟩
 fl:=Nat.succ_le_succ (Nat.le_succ_of_le hr.2)
 md:=Nat.le_succ_of_le h.md
 mi:=fun t ht=>⟨Nat.le_succ_of_le (h.mi t ht).1,(h.mi t ht).2⟩
 lh:=Nat.le_succ_of_le h.lh
 mm:=h.mm
theorem Sz.up {n:Nat} {s:MS} {k:Nat} (h:Sz n s):Sz (n+1) { s with rows:=k } where
 fr:=fun f hf=>⟨Nat.le_succ_of_le (h.fr f hf).1,(h.fr f hf).2⟩
 fl:=Nat.le_succ_of_le h.fl
 md:=Nat.le_succ_of_le h.md
 mi:=fun t ht=>⟨Nat.le_succ_of_le (h.mi t ht).1,(h.mi t ht).2⟩
 lh:=Nat.le_succ_of_le h.lh
 mm:=h.mm
theorem Sz.ends {n:Nat} {s:MS} {e:End} (h:Sz n s):Sz n (ends s e) where
 fr:=fun f hf=>by cases hf
 fl:=Nat.zero_le _
 md:=h.md
 mi:=h.mi
 lh:=h.lh
 mm:=h.mm
theorem Z7k {m:Mem} {k j:Int} {ps:PL} (h:∀ k,(getP m k).length≤2∧∀ p∈getP m k,0≤p.2) (hp:ps.length≤2∧∀ p∈ps,0≤p.2):(getP (updM m k ps) j).length≤2∧∀ p∈getP (updM m k ps) j,0≤p.2:=by
 unfold getP updM
 by_cases e:j=k
 ·rw [if_pos e]; exact hp
 ·rw [if_neg e]; exact h j
theorem found_sz {P:Prog} {n:Nat} {s s':MS} {house site word b:Nat} (h:Sz n s) (e:found P s house site word=some (b,s')):s'.frames=s.frames∧s'.made=s.made∧s'.calls=s.calls∧s'.ended=s.ended∧s'.rows=s.rows∧s'.looks+s'.hits=s.looks+s.hits+1∧∀ k,(getP s'.mem k).length≤2∧∀ p∈getP s'.mem k,0≤p.2:=by
 obtain ⟨l,g,m,rfl,hl,_,hm⟩:=Z4e e
 refine ⟨rfl,rfl,rfl,rfl,rfl,hl,fun k=>?_⟩
 have h1:=h.mm
 rcases hm with rfl | rfl | rfl
 ·exact h1 k
 ·refine Z7k h1 ⟨List.length_take_le _ _,fun p hp=>?_⟩
  rcases List.mem_cons.mp (List.mem_of_mem_take hp) with rfl | hp
  ·exact Int.natCast_nonneg _
  ·exact (h1 _).2 p hp
 ·refine Z7k h1 ⟨?_,fun p hp=>(h1 site).2 p ?_⟩
  ·rw [List.length_append]
   unfold seen Z0K
   rw [Z4S]
   exact (h1 site).1
  ·exact (List.mem_append.mp hp).elim (fun hp=>(List.mem_filter.mp hp).1) fun hp=>(List.mem_filter.mp hp).1
theorem EnS.sz {P:Prog} {n:Nat} {s s':MS} {f:AFr} {fs:List AFr} {b m:Nat} (p:PSz P) (h:Sz n s) (hf:f.st.length≤n∧f.sl.length < 900) (hr:(∀ g∈fs,g.st.length≤n∧g.sl.length < 900)∧fs.length < n) (e:EnS P s f fs b m s'):Sz n s':=by
 cases e with
 | dry=>exact h.ends
 | deep=>exact ⟨fun f hf=>(by cases hf),Nat.zero_le _,h.md,h.mi,h.lh,h.mm⟩
 | go k hk hl hm _=>
  refine ⟨fun g hg=>?_,Nat.succ_le_succ hr.2,h.md,h.mi,h.lh,h.mm⟩
  rcases List.mem_cons.mp hg with rfl | hg
  ·refine ⟨Nat.zero_le _,?_⟩
   show ((f.st.take m).reverse++List.replicate (k.size - m) AV.non).length < 900
   rw [List.length_append,List.length_reverse,List.length_take,List.length_replicate,Nat.min_eq_left hl,Nat.add_sub_cancel' hm]
   exact p.bk k (List.mem_of_getElem? hk)
  ·rcases List.mem_cons.mp hg with rfl | hg
   ·refine ⟨?_,hf.2⟩
    show (f.st.drop m).length≤n
    rw [List.length_drop]; exact Nat.le_trans (Nat.sub_le _ _) hf.1
   ·exact hr.1 g hg
theorem step_sz {P:Prog} {n:Nat} {s s':MS} (p:PSz P) (h:Sz n s) (e:step P s=some s'):Sz (n+1) s':=by
 obtain ⟨f,fs,r,he,hfr,hrow,q⟩:=Z4J e
 clear e
 have hf:=h.fr' hfr
 have hre:=h.rest hfr
 have hu:Sz (n+1) { s with rows:=s.rows+1 }:=h.up
 have hf1:f.st.length≤n+1∧f.sl.length < 900:=⟨Nat.le_succ_of_le hf.1,hf.2⟩
 have hr1:(∀ g∈fs,g.st.length≤n+1∧g.sl.length < 900)∧fs.length < n+1:=⟨fun g hg=>⟨Nat.le_succ_of_le (hre.1 g hg).1,(hre.1 g hg).2⟩,Nat.lt_succ_of_le hre.2⟩
 cases q with
 | own g o=>exact h.fram ⟨Nat.le_trans o.st (Nat.succ_le_succ hf.1),o.sl▸hf.2⟩ hre
 | ends e=>exact hu.ends
 | make hh m er hm=>
  subst er
  obtain ⟨b,hb,hr⟩:=Option.bind_eq_some_iff.mp hrow
  refine ⟨fun g hg=>?_,Nat.succ_le_succ (Nat.le_succ_of_le hre.2),?_,fun t ht=>?_,hu.lh,h.mm⟩
  ·rcases List.mem_cons.mp hg with rfl | hg
   ·refine ⟨?_,hf.2⟩
    show (f.st.drop m).length+1≤n+1
    rw [List.length_drop]; exact Nat.succ_le_succ (Nat.le_trans (Nat.sub_le _ _) hf.1)
   ·exact hr1.1 g hg
  ·show (s.made++[_]).length≤n+1
   rw [List.length_append]; exact Nat.succ_le_succ h.md
  ·rcases List.mem_append.mp ht with ht | ht
   ·exact hu.mi t ht
   ·rcases List.mem_singleton.mp ht with rfl
    refine ⟨?_,p.mkh b (List.mem_of_getElem? hb) _ (List.mem_of_getElem? hr) hh m rfl⟩
    show (f.st.take m).reverse.length≤n+1
    rw [List.length_reverse,List.length_take]; exact Nat.le_trans (Nat.min_le_right _ _) hf1.1
 | put v x st k pl t hst ht=>
  have hl:=hf.1
  rw [hst] at hl
  refine ⟨fun g hg=>?_,Nat.succ_le_succ (Nat.le_succ_of_le hre.2),?_,fun u hu'=>?_,hu.lh,h.mm⟩
  ·rcases List.mem_cons.mp hg with rfl | hg
   ·exact ⟨Nat.le_trans (Nat.le_succ _) (Nat.le_succ_of_le hl),hf.2⟩
   ·exact hr1.1 g hg
  ·show (s.made.set _ _).length≤_
   rw [List.length_set]; exact hu.md
  ·rcases List.mem_or_eq_of_mem_set hu' with hu' | rfl
   ·exact hu.mi u hu'
   ·have q:=hu.mi t (List.mem_of_getElem? ht)
    refine ⟨?_,q.2⟩
    show (t.2.set pl v).length≤_
    rw [List.length_set]; exact q.1
 | call hh si w b m s1 er hb en=>
  obtain ⟨a1,a2,a3,a4,a5,a6,a7⟩:=found_sz hu hb
  exact EnS.sz p ⟨by rw [a1]; exact hu.fr,by rw [a1]; exact hu.fl,by rw [a2]; exact hu.md,by rw [a2]; exact hu.mi,by rw [a6]; exact Nat.succ_le_succ h.lh,a7⟩ hf1 hr1 en
 | strt b m er en=>exact EnS.sz p hu hf1 hr1 en
 | back v g gs eg=>
  subst eg
  have hg:=hre.1 g List.mem_cons_self
  refine ⟨fun x hx=>?_,Nat.le_succ_of_le (Nat.le_succ_of_le hre.2),hu.md,hu.mi,hu.lh,h.mm⟩
  rcases List.mem_cons.mp hx with rfl | hx
  ·exact ⟨Nat.succ_le_succ hg.1,hg.2⟩
  ·exact hr1.1 x (List.mem_cons_of_mem _ hx)
end Mach
end
section
namespace MM
open PySem L2
open Mach (AV AFr Row Sg Blk MS PL Mem getP updM seen Z0K Bd)
section
variable {o:MO} {P:Mach.Prog} {e v:V} {c l h r:Nat}
theorem J0Q:putF "ended" v (fsM o P e c l h r)=fsM o P v c l h r:=rfl
theorem Z7F {q:Addr}:putF "stacked" (.ref q) (fsM o P e c l h r)=fsM { o with sk:=q } P e c l h r:=rfl
theorem J0q {c':Nat}:putF "call_count" (.int c') (fsM o P e c l h r)=fsM o P e c' l h r:=rfl
theorem Z6H {c':Nat}:putF "look_count" (.int c') (fsM o P e c l h r)=fsM o P e c c' h r:=rfl
theorem J2p {c':Nat}:putF "hit_count" (.int c') (fsM o P e c l h r)=fsM o P e c l c' r:=rfl
theorem J3g {c':Nat}:putF "row_count" (.int c') (fsM o P e c l h r)=fsM o P e c l h c':=rfl
theorem Z5Q:(fsM o P e c l h r).lookup ("blocks":Str)=some (.ref o.B):=rfl
theorem Z5H:(fsM o P e c l h r).lookup ("house_tables":Str)=some (.ref o.TT):=rfl
theorem J2J:(fsM o P e c l h r).lookup ("most":Str)=some (.int P.most):=rfl
theorem Z8q:(fsM o P e c l h r).lookup ("remembers":Str)=some (.bl P.rem):=rfl
theorem Z5W:(fsM o P e c l h r).lookup ("places":Str)=some (.ref o.pl):=rfl
theorem Z0S:(fsM o P e c l h r).lookup ("stacked":Str)=some (.ref o.sk):=rfl
theorem Z2O:(fsM o P e c l h r).lookup ("made":Str)=some (.ref o.md):=rfl
theorem Z7s:(fsM o P e c l h r).lookup ("ended":Str)=some e:=rfl
theorem Z4Z:(fsM o P e c l h r).lookup ("call_count":Str)=some (.int c):=rfl
theorem Z5q:(fsM o P e c l h r).lookup ("look_count":Str)=some (.int l):=rfl
theorem Z8H:(fsM o P e c l h r).lookup ("hit_count":Str)=some (.int h):=rfl
theorem Z8k:(fsM o P e c l h r).lookup ("row_count":Str)=some (.int r):=rfl
theorem Z4a:(fsM o P e c l h r).length < 1000:=by show 12 < 1000; decide
end
structure Lay (k:Nat) (d:PyData):Prop where
 lay:d.canLay0=true
 dep:d.depth≤k
structure LayL (k:Nat) (ds:List PyData):Prop where
 lay:PyData.canLayAll0 ds=true
 dep:PyData.depthAll ds≤k
theorem Lay.of {k n:Nat} {d:PyData} (h:Nice k n d):Lay k d:=⟨h.lay,h.dep⟩
theorem Lay.int {k:Nat} {i:Int}:Lay k (.int i):=⟨rfl,Nat.zero_le _⟩
theorem LayL.nil {k:Nat}:LayL k []:=⟨rfl,Nat.zero_le _⟩
theorem LayL.cons {k:Nat} {d:PyData} {ds:List PyData} (h:Lay k d) (hs:LayL k ds):LayL k (d::ds):=⟨by rw [PyData.canLayAll0,h.lay,hs.lay]; rfl,by rw [PyData.depthAll]; exact Nat.max_le.mpr ⟨h.dep,hs.dep⟩⟩
theorem Lay.tup {k:Nat} {ds:List PyData} (h:LayL k ds):Lay (k+1) (.tuple ds):=⟨by rw [PyData.canLay0]; exact h.lay,by rw [PyData.depth]; exact Nat.succ_le_succ h.dep⟩
theorem Lay.lst {k:Nat} {ds:List PyData} (h:LayL k ds):Lay (k+1) (.list ds):=⟨by rw [PyData.canLay0]; exact h.lay,by rw [PyData.depth]; exact Nat.succ_le_succ h.dep⟩
theorem Lay.shaped {k:Nat} {d:PyData} (h:Lay k d) (hk:k≤64):PySem.SeqAt.shaped d=true:=Bool.and_eq_true_iff.mpr ⟨h.lay,decide_eq_true (Nat.le_trans h.dep hk)⟩
theorem lays {K:W.Frag} {H:Hp} {k:Nat} {vs:List V} (h:∀ v∈vs,∃ d,RdD K H v d∧Lay k d):∃ ds,RdDs K H vs ds∧LayL k ds:=by
 induction vs with
 | nil=>exact ⟨[],.nil,.nil⟩
 | cons v vs ih=>
  obtain ⟨d,a,b⟩:=h v List.mem_cons_self
  obtain ⟨ds,c,e⟩:=ih fun u hu=>h u (List.mem_cons_of_mem _ hu)
  exact ⟨d::ds,.cons a c,.cons b e⟩
theorem AtVs.lay {K:W.Frag} {H:Hp} {vs:List V} {as:List AV} (h:AtVs K H vs as):∃ ds,RdDs K H vs ds∧LayL 1 ds:=lays fun v hv=>let ⟨d,a,b⟩:=AtVs.rd h v hv; ⟨d,a,.of b⟩
theorem FrV.lay {K:W.Frag} {H:Hp} {v:V} {f:AFr} (h:FrV K H v f):∃ d,RdD K H v d∧Lay 3 d:=by
 obtain ⟨a,rfl,F,⟨sa,ta,x,y,z⟩,e1,e2,hs,ht⟩:=h
 obtain ⟨ds,a1,a2⟩:=AtVs.lay hs
 obtain ⟨es,b1,b2⟩:=AtVs.lay ht
 rw [e1] at x
 exact ⟨_,.tup x (.cons (.int _) (.cons (.int _) (.cons (.tup y a1) (.cons (.tup z b1) .nil)))),Lay.tup (k:=2) (.cons .int (.cons .int (.cons (.tup a2) (.cons (.tup b2) .nil))))⟩
theorem Pd.mem {α β:Type} {R:α→β→Prop}:∀ {xs:List α} {ys:List β},Paired R xs ys→∀ x∈xs,∃ y∈ys,R x y
 | _,_,.nil,x,hx=>by cases hx
 | _,_,.cons r t,x,hx=>by
  rcases List.mem_cons.mp hx with rfl | hx
  ·exact ⟨_,List.mem_cons_self,r⟩
  ·obtain ⟨y,a,b⟩:=Pd.mem t x hx
   exact ⟨y,List.mem_cons_of_mem _ a,b⟩
theorem Z8L {K:W.Frag} {H:Hp}:∀ {vs:List V} {ds:List PyData},RdDs K H vs ds→vs.length=ds.length
 | _,_,.nil=>rfl
 | _,_,.cons _ b=>congrArg (·+1) (Z8L b)
theorem J2Z {K:W.Frag} {H:Hp} {l:Addr} {ss:List V} {fs:List AFr} (hl:SqL K H l ss) (h:Paired (FrV K H) ss fs):∃ d,RdD K H (.ref l) d∧PySem.SeqAt.shaped d=true∧PyData.eqv d (.list [])=fs.isEmpty:=by
 obtain ⟨ds,a,b⟩:=lays (k:=3) (K:=K) (H:=H) (vs:=ss) fun v hv=>let ⟨f,_,q⟩:=Pd.mem h v hv; FrV.lay q
 refine ⟨_,.lst hl a,(Lay.lst b).shaped (by decide),?_⟩
 have e1:=Z8L a
 have e2:=Paired.length h
 cases ds with
 | nil=>
  have:fs=[]:=List.length_eq_zero_iff.mp (by rw [← e2,e1]; rfl)
  subst this
  rw [PyData.eqv]; rfl
 | cons d ds=>
  cases fs with
  | nil=>rw [e1] at e2; cases e2
  | cons f fs=>rw [PyData.eqv]; rfl
theorem Z9C {n:Nat} (h:0 < n):ixN n (-1)=some (n - 1):=by
 unfold ixN
 rw [if_neg (by decide),if_pos (by omega)]
 congr 1
 omega
theorem Z5s {α:Type} (xs:List α) (x y:α):(xs++[x]).set ((xs++[x]).length - 1) y=xs++[y]:=by
 rw [List.length_append,List.set_append_right _ _ (by simp)]
 simp
theorem J4C {K:W.Frag} {H:Hp} {p:Addr} (h:H p=some (.lst [])):RdD K H (.ref p) (.list []):=.lst (SqL.of h) .nil
theorem Z7G:PySem.SeqAt.shaped (.list [])=true:=by decide +kernel
theorem MAt.top {CM CP:Addr} {K:W.Frag} {ex:Addr→Prop} {o:MO} {P:Mach.Prog} {s:MS} {H:Hp} {f:AFr} {fs:List AFr} (M:MAt CM CP K ex o P s H) (e:s.frames=f::fs):∃ ss a,H o.sk=some (.lst (ss++[.ref a]))∧Paired (FrV K H) ss fs.reverse∧FrIs K H a f:=by
 obtain ⟨ss,h1,h2⟩:=M.stk
 rw [e,List.reverse_cons] at h2
 obtain ⟨ss',v,rfl,h3,a,rfl,h4⟩:=Pd.snoc_inv h2
 exact ⟨ss',a,h1,h3,h4⟩
theorem MAt.mem2 {CM CP:Addr} {K:W.Frag} {ex:Addr→Prop} {o:MO} {P:Mach.Prog} {s s':MS} {H H':Hp} {e:V} (M:MAt CM CP K ex o P s H) (x:SameX o.pd H H') (r:Rep (fun a=>a=o.sk∨a=o.md∨ex a) H' o.pd (s.looks+s.hits+1) s'.mem)
  (hf:s'.frames=s.frames) (hm:s'.made=s.made) (hr:s'.looks+s'.hits=s.looks+s.hits+1) (he:EndAt K H e s'.ended) :
  MAt CM CP K ex o P s' (upd H' o.x (.ins CM o.dx (fsM o P e s'.calls s'.looks s'.hits s'.rows)))∧Keep ex H (upd H' o.x (.ins CM o.dx (fsM o P e s'.calls s'.looks s'.hits s'.rows))):=by
 obtain ⟨v,a,b⟩:=M.ins
 obtain ⟨kvs,hk⟩:=M.pdk
 obtain ⟨ss,s1,s2⟩:=M.stk
 obtain ⟨ms,m1,m2⟩:=M.mad
 have t:SameT H H':=fun c xs=>⟨fun h=>x _ _ (Z1l h hk (fun z=>by cases z)) h,fun o h=>x _ _ (Z1l h hk (fun z=>by cases z)) h⟩
 have a':=x _ _ (Z1l a hk (fun z=>by cases z)) a
 have s1':=x _ _ (Z1l s1 hk (fun z=>by cases z)) s1
 have m1':=x _ _ (Z1l m1 hk (fun z=>by cases z)) m1
 have p':=x _ _ (Z1l M.plc hk (fun z=>by cases z)) M.plc
 have ex':∀ y,ex y→H' y=H y:=fun y hy=>by
  obtain ⟨u,hu⟩:=Option.ne_none_iff_exists'.mp (M.exs y hy)
  rw [hu]; exact x _ _ (fun z=>M.nex.2.2.1 (z▸hy)) hu
 obtain ⟨kv',hk',_⟩:=id r
 have nk:o.pd≠o.x:=Z1l hk' a' (fun z=>by cases z)
 have ns:o.sk≠o.x:=Z1l s1' a' (fun z=>by cases z)
 have nm:o.md≠o.x:=Z1l m1' a' (fun z=>by cases z)
 have t2:SameT H' (upd H' o.x (.ins CM o.dx (fsM o P e s'.calls s'.looks s'.hits s'.rows))):=Z2l _ a' J1z
 have T:=t.trans t2
 refine ⟨⟨⟨e,Z0e,he.t T⟩,M.pr.t T,by rw [Z0h (fun z=>M.nxp z.symm)]; exact p',?_,⟨ss,by rw [Z0h ns]; exact s1',by rw [hf]; exact Pd.imp (fun _ _ q=>q.t T) s2⟩,⟨ms,by rw [Z0h nm]; exact m1',by rw [hm]; exact Pd.imp (fun _ _ q=>q.t T) m2⟩,M.nxp,M.nsm,M.nex,fun y hy=>?_⟩,T,fun y hy=>?_⟩
 ·rw [hr]
  exact r.u _ a' nk ⟨fun _ z=>(by cases z),fun _ z=>by cases z⟩
 ·rw [Z0h (show y≠o.x from fun z=>M.nex.1 (z▸hy)),ex' y hy]; exact M.exs y hy
 ·rw [Z0h (show y≠o.x from fun z=>M.nex.1 (z▸hy)),ex' y hy]
theorem MAt.hid {CM CP:Addr} {K:W.Frag} {ex:Addr→Prop} {o:MO} {P:Mach.Prog} {s:MS} {H:Hp} (M:MAt CM CP K ex o P s H):∀ a,(a=o.sk∨a=o.md∨ex a)→H a≠none:=fun a h=>by
 rcases h with rfl | rfl | h
 ·obtain ⟨_,e,_⟩:=M.stk; rw [e]; simp
 ·obtain ⟨_,e,_⟩:=M.mad; rw [e]; simp
 ·exact M.exs a h
theorem MAt.rep' {CM CP:Addr} {K:W.Frag} {ex:Addr→Prop} {o:MO} {P:Mach.Prog} {s:MS} {H:Hp} (M:MAt CM CP K ex o P s H) (u:HO):Rep (fun a=>a=o.sk∨a=o.md∨ex a) (upd H o.x u) o.pd (s.looks+s.hits) s.mem:=by
 obtain ⟨v,a,b⟩:=M.ins
 obtain ⟨kvs,hk⟩:=M.pdk
 exact M.rep.u _ a (Z1l hk a (fun z=>by cases z)) ⟨fun _ z=>(by cases z),fun _ z=>by cases z⟩
theorem MAt.put {CM CP:Addr} {K:W.Frag} {ex:Addr→Prop} {o:MO} {P:Mach.Prog} {s:MS} {H:Hp} {f f':AFr} {fs:List AFr} {p:Addr} (M:MAt CM CP K ex o P s H) (e:s.frames=f::fs) (hf:FrV K H (.ref p) f') :
  ∃ xs j,H o.sk=some (.lst xs)∧ixN xs.length (-1)=some j∧MAt CM CP K ex o P { s with frames:=f'::fs } (upd H o.sk (.lst (xs.set j (.ref p))))∧Keep ex H (upd H o.sk (.lst (xs.set j (.ref p)))):=by
 obtain ⟨ss,a,c1,c2,c3⟩:=M.top e
 obtain ⟨M1,k1⟩:=M.frames (fr:=f'::fs) (ss':=ss++[.ref p]) (by rw [List.reverse_cons]; exact Pd.app c2 (.cons hf .nil))
 rw [← Z5s ss (.ref a) (.ref p)] at M1 k1
 exact ⟨_,_,c1,Z9C (by simp),M1,k1⟩
theorem mkFr {K:W.Frag} {H:Hp} {p:Addr} {F:Fr} {f:AFr} (h:FrAt K H p F) (h1:F.n=.int f.n) (h2:F.at_=f.pc) (h3:AtVs K H F.sl f.sl) (h4:AtVs K H F.st f.st.reverse):FrV K H (.ref p) f:=⟨p,rfl,F,h,h1,h2,h3,h4⟩
theorem Z8i {n k:Nat} (h:k < n):ixN n (k:Int)=some k:=by
 unfold ixN
 rw [if_pos (by omega),if_pos (by omega)]
 simp
noncomputable def avD:AV→PyData
 | .non=>.none
 | .bl b=>.bool b
 | .int i=>.int i
 | .th k=>.tuple [.str "thing",.int k]
noncomputable def endD:Mach.End→PyData
 | .val v=>.tuple [.str "value",avD v]
 | .thing h=>.tuple [.str "thing",.int h]
 | .dry=>.tuple [.str "dry"]
 | .deep=>.tuple [.str "deep"]
 | .great=>.tuple [.str "refused",.str "great"]
 | .nought=>.tuple [.str "refused",.str "nought"]
theorem Z2h {k:Nat} {x:Str} (h:PyData.strOk x=true:=by decide +kernel) (hn:x.cps.size≤8:=by decide +kernel):Nice k 8 (.str x):=.str h hn
theorem AtV.nice {K:W.Frag} {H:Hp} {v:V} {a:AV} (h:AtV K H v a):RdD K H v (avD a)∧Nice 1 100 (avD a):=by
 cases a with
 | non=>cases h; exact ⟨.non,.none⟩
 | bl b=>cases h; exact ⟨.bl b,.bool⟩
 | int i=>obtain ⟨rfl,hb⟩:=h; exact ⟨.int i,(Nice.int (by unfold Mach.Bd at hb; omega)).mono (Nat.le_refl _) (by decide)⟩
 | th k=>
  obtain ⟨t,rfl,b,l⟩:=h
  exact ⟨.tup (SqT.of b) (.cons (.str _) (.cons (.int k) .nil)),Nice.tup (k:=0) (n:=100) (.cons (a:=8) (b:=61) Z2h (.cons (a:=60) (b:=0) (.int (by omega)) .nil (by decide)) (by decide))⟩
theorem EndIs.nice {K:W.Frag} {H:Hp} {a:Addr} {e:Mach.End} (h:EndIs K H a e):RdD K H (.ref a) (endD e)∧Nice 2 200 (endD e):=by
 cases e with
 | val v=>
  obtain ⟨y,p,q⟩:=h
  obtain ⟨r,n⟩:=AtV.nice q
  exact ⟨.tup p (.cons (.str _) (.cons r .nil)),Nice.tup (k:=1) (n:=200) (.cons (a:=8) (b:=150) Z2h (.cons (a:=100) (b:=0) n .nil (by decide)) (by decide))⟩
 | thing x=>exact ⟨.tup h.1 (.cons (.str _) (.cons (.int _) .nil)),(Nice.tup (k:=0) (n:=200) (.cons (a:=8) (b:=150) Z2h (.cons (a:=60) (b:=0) (.int (by have:=h.2; omega)) .nil (by decide)) (by decide))).mono (by decide) (by decide)⟩
 | dry=>exact ⟨.tup h (.cons (.str _) .nil),(Nice.tup (k:=0) (n:=200) (.cons (a:=8) (b:=0) Z2h .nil (by decide))).mono (by decide) (by decide)⟩
 | deep=>exact ⟨.tup h (.cons (.str _) .nil),(Nice.tup (k:=0) (n:=200) (.cons (a:=8) (b:=0) Z2h .nil (by decide))).mono (by decide) (by decide)⟩
 | great=>exact ⟨.tup h (.cons (.str _) (.cons (.str _) .nil)),(Nice.tup (k:=0) (n:=200) (.cons (a:=8) (b:=150) Z2h (.cons (a:=8) (b:=0) Z2h .nil (by decide)) (by decide))).mono (by decide) (by decide)⟩
 | nought=>exact ⟨.tup h (.cons (.str _) (.cons (.str _) .nil)),(Nice.tup (k:=0) (n:=200) (.cons (a:=8) (b:=150) Z2h (.cons (a:=8) (b:=0) Z2h .nil (by decide)) (by decide))).mono (by decide) (by decide)⟩
theorem FrIs.st {K:W.Frag} {H:Hp} {a:Addr} {f:AFr} (h:FrIs K H a f):∃ (F:Fr) (sa ta:Addr),SqT K H a [.int f.n,.int f.pc,.ref sa,.ref ta]∧SqT K H sa F.sl∧SqT K H ta F.st∧F.n=.int f.n∧F.at_=f.pc∧AtVs K H F.sl f.sl∧AtVs K H F.st f.st.reverse∧F.st.length=f.st.length∧F.sl.length=f.sl.length:=by
 obtain ⟨F,⟨sa,ta,x,y,z⟩,e1,e2,hs,ht⟩:=h
 rw [e1,e2] at x
 exact ⟨F,sa,ta,x,y,z,e1,e2,hs,ht,by rw [Paired.length ht,List.length_reverse],Paired.length hs⟩
end MM
end
section
namespace L2
open PySem PySem.Spec PyProof.Rows PySem.SeqAt
def rNeN (K:W.Frag):R2:=fun x y H Q=>∃ a xs b,x=.ref a∧y=.ref b∧SqL K H a xs∧SqL K H b []∧Q (.bl (!xs.isEmpty)) H
def rEqN (K:W.Frag):R2:=fun x y H Q=>∃ a xs b,x=.ref a∧y=.ref b∧SqL K H a xs∧SqL K H b []∧Q (.bl xs.isEmpty) H
theorem J5H {K:W.Frag} {x y:V} {H:Hp} {Q:VK}:rNeN K x y H Q=∃ a xs b,x=.ref a∧y=.ref b∧SqL K H a xs∧SqL K H b []∧Q (.bl (!xs.isEmpty)) H:=rfl
theorem J6v {K:W.Frag} {x y:V} {H:Hp} {Q:VK}:rEqN K x y H Q=∃ a xs b,x=.ref a∧y=.ref b∧SqL K H a xs∧SqL K H b []∧Q (.bl xs.isEmpty) H:=rfl
section
variable {X:Cx}
theorem Z6X (hu:X.A.units+64 < cLine):OpR X (compareOp .NotEq) (rNeN X.K):=by
 intro pins s σ H x y v u Q I rx ry h
 obtain ⟨a,xs,b,rfl,rfl,ha,hb,q⟩:=h
 cases rx
 cases ry
 obtain ⟨its,rv,pl,_⟩:=I.list ha
 obtain ⟨its2,rv2,pl2,_⟩:=I.list hb
 cases rv2.zero
 cases xs with
 | nil=>
  cases rv.zero
  exact RcNeAt.lists (e:=fun _=>true) pl.isList pl2.isList rfl (Nat.lt_of_le_of_lt (Nat.le_add_right _ _) hu) (fun j h=>absurd h (Nat.not_lt_zero _)) X.prog X.w X.xe _ ⟨.bl false,H,I,rfl,q⟩
 | cons x xs=>
  have hl:=rv.length
  refine RcNeAt.lists_lengths pl.isList pl2.isList ?_ (Nat.lt_of_le_of_lt (Nat.le_add_right _ _) hu) X.prog X.w X.xe _ ⟨.bl true,H,I,rfl,q⟩
  rw [List.size_toArray,← hl]; rfl
theorem J3Q (hu:X.A.units+64 < cLine):OpR X (compareOp .Eq) (rEqN X.K):=by
 intro pins s σ H x y v u Q I rx ry h
 obtain ⟨a,xs,b,rfl,rfl,ha,hb,q⟩:=h
 cases rx
 cases ry
 obtain ⟨its,rv,pl,_⟩:=I.list ha
 obtain ⟨its2,rv2,pl2,_⟩:=I.list hb
 cases rv2.zero
 cases xs with
 | nil=>
  cases rv.zero
  exact RcAt.lists (e:=fun _=>true) pl.isList pl2.isList rfl (Nat.lt_of_le_of_lt (Nat.le_add_right _ _) hu) (fun j h=>absurd h (Nat.not_lt_zero _)) X.prog X.w X.xe _ ⟨.bl true,H,I,rfl,q⟩
 | cons x xs=>
  have hl:=rv.length
  refine RcAt.lists_lengths pl.isList pl2.isList ?_ (Nat.lt_of_le_of_lt (Nat.le_add_right _ _) hu) X.prog X.w X.xe _ ⟨.bl false,H,I,rfl,q⟩
  rw [List.size_toArray,← hl]; rfl
end
def J5S (K:W.Frag) (ta:TE):TT:=fun σ H Q=>ta σ H fun x H1=>∃ a xs,x=.ref a∧SqL K H1 a xs∧Q (!xs.isEmpty) H1
theorem J5C {K:W.Frag} {ta:TE} {σ:St} {H:Hp} {Q:Bool→Hp→Prop}:J5S K ta σ H Q=ta σ H fun x H1=>∃ a xs,x=.ref a∧SqL K H1 a xs∧Q (!xs.isEmpty) H1:=rfl
end L2
end
section
namespace L2
open PySem PySem.Spec PyProof.Rows
variable {X:Cx}
def J5J (ta:TA):TE:=fun σ H Q=>ta σ H fun vs H1=>∃ n:Nat,vs=[.int (n:Int)]∧n≤1000000∧∀ l,H1 l=none→Q (.ref l) (upd H1 l (.lst ((List.range n).map fun i=>V.int ((i:Nat):Int))))
theorem Z3s {α β:Type} {R:α→β→Prop}:∀ {xs:List α} {ys:List β},xs.length=ys.length→(∀ (i:Nat) x y,xs[i]?=some x→ys[i]?=some y→R x y)→Paired R xs ys
 | [],[],_,_=>.nil
 | x::xs,y::ys,hl,h=>.cons (h 0 x y rfl rfl) (Z3s (Nat.succ.inj hl) fun i a b ha hb=>h (i+1) a b ha hb)
theorem J5B {ta:TA} {σ:St} {H:Hp} {Q:VK}:J5J ta σ H Q=ta σ H fun vs H1=>∃ n:Nat,vs=[.int (n:Int)]∧n≤1000000∧New H1 (.lst ((List.range n).map fun i=>V.int ((i:Nat):Int))) fun l H2=>Q (.ref l) H2:=rfl
theorem J5p {σ:St} {H:Hp} {Q:List (V×V)→Hp→Prop}:Z4j [] σ H Q=Q [] H:=rfl
theorem J5q {tk tv:TE} {r:List (TE×TE)} {σ:St} {H:Hp} {Q:List (V×V)→Hp→Prop}:Z4j ((tk,tv)::r) σ H Q=tk σ H fun x H1=>tv σ H1 fun y H2=>Z4j r σ H2 fun ps H3=>Q ((x,y)::ps) H3:=rfl
theorem J5z {trs:List (TE×TE)} {σ:St} {H:Hp} {Q:VK}:J4U trs σ H Q=New H (.dK []) fun p H1=>Z4j trs σ H1 fun ps H2=>H2 p=some (.dK [])∧∃ kvs:List (Key×V),ps=kvs.map (fun kv=>(kV kv.1,kv.2))∧kvs.length≤15∧Q (.ref p) (upd H2 p (.dK (Z2z [] kvs))):=rfl
end L2
end
section
namespace MT
open Mach
inductive Kd | n | t | h | hx
 deriving DecidableEq
def fk:Nat→Kd
 | 0=>.n
 | 1=>.t
 | 2=>.n
 | _=>.h
structure Wo where
 fields:List Nat
 heads:List (List Kd×Kd)
 owners:List Nat
inductive VT (W:Wo) (hs:List Nat):AV→Kd→Prop
 | int {i:Int}:Bd i→VT W hs (.int i) .n
 | bl {b:Bool}:VT W hs (.bl b) .t
 | th {k ho:Nat}:hs[k]?=some ho→VT W hs (.th k) .h
 | tx {k ho:Nat}:hs[k]?=some ho→W.fields[ho]?=some 4→VT W hs (.th k) .hx
theorem VT.mono {W:Wo} {hs:List Nat} {v:AV} {k:Kd} (h:VT W hs v k) (x:List Nat):VT W (hs++x) v k:=by
 have e:∀ {k ho:Nat},hs[k]?=some ho→(hs++x)[k]?=some ho:=fun {k ho} e=>by
  rw [List.getElem?_append_left (List.getElem?_eq_some_iff.mp e).1]; exact e
 cases h with
 | int b=>exact .int b
 | bl=>exact .bl
 | th a=>exact .th (e a)
 | tx a b=>exact .tx (e a) b
theorem VT.wk {W:Wo} {hs:List Nat} {v:AV} (h:VT W hs v .hx):VT W hs v .h:=by
 cases h with
 | tx a _=>exact .th a
inductive StT (W:Wo) (hs:List Nat):List AV→List Kd→Prop
 | nil:StT W hs [] []
 | cons {v:AV} {k:Kd} {st:List AV} {ks:List Kd}:VT W hs v k→StT W hs st ks→StT W hs (v::st) (k::ks)
theorem StT.mono {W:Wo} {hs:List Nat} {st:List AV} {ks:List Kd} (h:StT W hs st ks) (x:List Nat):StT W (hs++x) st ks:=by
 induction h with
 | nil=>exact .nil
 | cons a _ ih=>exact .cons (a.mono x) ih
theorem StT.len {W:Wo} {hs:List Nat} {st:List AV} {ks:List Kd} (h:StT W hs st ks):st.length=ks.length:=by
 induction h with
 | nil=>rfl
 | cons _ _ ih=>rw [List.length_cons,List.length_cons,ih]
theorem StT.split {W:Wo} {hs:List Nat}:∀ {a:List Kd} {st:List AV} {b:List Kd},StT W hs st (a++b)→StT W hs (st.take a.length) a∧StT W hs (st.drop a.length) b
 | [],st,b,h=>⟨by rw [List.length_nil,List.take_zero]; exact .nil,h⟩
 | k::a,st,b,h=>by
  cases h with
  | cons v r=>
   obtain ⟨h1,h2⟩:=StT.split r
   exact ⟨.cons v h1,h2⟩
theorem StT.snoc {W:Wo} {hs:List Nat} {v:AV} {k:Kd}:∀ {st:List AV} {ks:List Kd},StT W hs st ks→VT W hs v k→StT W hs (st++[v]) (ks++[k])
 | _,_,.nil,h=>.cons h .nil
 | _,_,.cons a b,h=>.cons a (StT.snoc b h)
theorem StT.rev {W:Wo} {hs:List Nat}:∀ {st:List AV} {ks:List Kd},StT W hs st ks→StT W hs st.reverse ks.reverse
 | _,_,.nil=>.nil
 | _,_,.cons a b=>by rw [List.reverse_cons,List.reverse_cons]; exact b.rev.snoc a
theorem StT.at {W:Wo} {hs:List Nat}:∀ {st:List AV} {ks:List Kd},StT W hs st ks→∀ {i:Nat} {v:AV} {k:Kd},st[i]?=some v→ks[i]?=some k→VT W hs v k
 | _,_,.cons a b,0,v,k,h1,h2=>by cases h1; cases h2; exact a
 | _,_,.cons a b,i+1,v,k,h1,h2=>b.at h1 h2
def SlT (W:Wo) (hs:List Nat) (sl:List AV) (ks:List (Option Kd)):Prop:=sl.length=ks.length∧∀ (i:Nat) v k,sl[i]?=some v→ks[i]?=some (some k)→VT W hs v k
theorem SlT.mono {W:Wo} {hs:List Nat} {sl:List AV} {ks:List (Option Kd)} (h:SlT W hs sl ks) (x:List Nat):SlT W (hs++x) sl ks:=⟨h.1,fun i v k a b=>(h.2 i v k a b).mono x⟩
theorem SlT.put {W:Wo} {hs:List Nat} {sl:List AV} {ks:List (Option Kd)} (h:SlT W hs sl ks) (i:Nat) {v:AV} {k:Kd} (hv:VT W hs v k):SlT W hs (sl.set i v) (ks.set i (some k)):=by
 refine ⟨by rw [List.length_set,List.length_set]; exact h.1,fun j u l a b=>?_⟩
 rw [List.getElem?_set] at a b
 by_cases e:i=j
 ·rw [if_pos e] at a b
  split at a
  ·split at b
   ·cases a; cases b; exact hv
   ·cases b
  ·cases a
 ·rw [if_neg e] at a b
  exact h.2 j u l a b
def Sm (W:Wo) (n l:Nat):Row→Prop
 | .load i=>i < l
 | .keep i=>i < l
 | .get pl=>pl=3∨∀ m∈W.fields,pl < m
 | .put pl=>pl=3∨∀ m∈W.fields,pl < m
 | .skip k=>k < 10000
 | .unl k=>k < 10000
 | .make h m=>W.fields[h]?=some m
 | .call s w m=>s < n∧∃ (ps:List Kd) (tk:Kd),W.heads[w]?=some (ps,tk)∧m=1+ps.length
 | .straight b m=>b < W.owners.length∧∃ (w:Nat) (ps:List Kd) (tk:Kd),W.heads[w]?=some (ps,tk)∧m=1+ps.length
 | _=>True
theorem Sm.mono {W:Wo} {n l n' l':Nat} {q:Row} (h:Sm W n l q) (hn:n≤n') (hl:l≤l'):Sm W n' l' q:=by
 cases q with
 | load i=>exact Nat.lt_of_lt_of_le h hl
 | keep i=>exact Nat.lt_of_lt_of_le h hl
 | call s w m=>exact ⟨Nat.lt_of_lt_of_le h.1 hn,h.2⟩
 | _=>exact h
inductive Sf (W:Wo) (ss:List Nat) (told:Kd):List Row→List (Option Kd)→List Kd→Prop
 | back {sl:List (Option Kd)} {st:List Kd}:Sf W ss told [.back] sl (told::st)
 | push {v:AV} {k:Kd} {r:List Row} {sl:List (Option Kd)} {st:List Kd}:VT W [] v k→Sf W ss told r sl (k::st)→Sf W ss told (.push v::r) sl st
 | load {i:Nat} {k:Kd} {r:List Row} {sl:List (Option Kd)} {st:List Kd}:sl[i]?=some (some k)→Sf W ss told r sl (k::st)→Sf W ss told (.load i::r) sl st
 | nt {r:List Row} {sl:List (Option Kd)} {st:List Kd}:Sf W ss told r sl (.t::st)→Sf W ss told (.nt::r) sl (.t::st)
 | get {pl:Nat} {r:List Row} {sl:List (Option Kd)} {st:List Kd}:(∀ m∈W.fields,pl < m)→Sf W ss told r sl (fk pl::st)→Sf W ss told (.get pl::r) sl (.h::st)
 | get3 {r:List Row} {sl:List (Option Kd)} {st:List Kd}:Sf W ss told r sl (.h::st)→Sf W ss told (.get 3::r) sl (.hx::st)
 | keep {i:Nat} {k:Kd} {r:List Row} {sl:List (Option Kd)} {st:List Kd}:i < sl.length→Sf W ss told r (sl.set i (some k)) st→Sf W ss told (.keep i::r) sl (k::st)
 | drop {k:Kd} {r:List Row} {sl:List (Option Kd)} {st:List Kd}:Sf W ss told r sl st→Sf W ss told (.drop::r) sl (k::st)
 | skip {n:Nat} {r:List Row} {sl:List (Option Kd)} {st:List Kd}:n < 10000→(∀ q∈r,Sm W ss.length sl.length q)→Sf W ss told (r.drop n) sl st→Sf W ss told (.skip n::r) sl st
 | unl {n:Nat} {r:List Row} {sl:List (Option Kd)} {st:List Kd}:n < 10000→Sf W ss told r sl st→Sf W ss told (r.drop n) sl st→Sf W ss told (.unl n::r) sl (.t::st)
 | num {g:Sg} {r:List Row} {sl:List (Option Kd)} {st:List Kd}:g≠.less→g≠.same→Sf W ss told r sl (.n::st)→Sf W ss told (.two g::r) sl (.n::.n::st)
 | less {r:List Row} {sl:List (Option Kd)} {st:List Kd}:Sf W ss told r sl (.t::st)→Sf W ss told (.two .less::r) sl (.n::.n::st)
 | same {k:Kd} {r:List Row} {sl:List (Option Kd)} {st:List Kd}:k≠.hx→Sf W ss told r sl (.t::st)→Sf W ss told (.two .same::r) sl (k::k::st)
 | make {ho m:Nat} {r:List Row} {sl:List (Option Kd)} {st:List Kd}:W.fields[ho]?=some m→Sf W ss told r sl ((if m=4 then .hx else .h)::st)→Sf W ss told (.make ho m::r) sl (((List.range m).map fk).reverse++st)
 | put {pl:Nat} {r:List Row} {sl:List (Option Kd)} {st:List Kd}:(∀ m∈W.fields,pl < m)→Sf W ss told r sl (fk pl::st)→Sf W ss told (.put pl::r) sl (fk pl::.h::st)
 | put3 {r:List Row} {sl:List (Option Kd)} {st:List Kd}:Sf W ss told r sl (.h::st)→Sf W ss told (.put 3::r) sl (.h::.hx::st)
 | call {site word:Nat} {ps:List Kd} {tk:Kd} {r:List Row} {sl:List (Option Kd)} {st:List Kd}:ss[site]?=some word→W.heads[word]?=some (ps,tk)→Sf W ss told r sl (tk::st)→Sf W ss told (.call site word (1+ps.length)::r) sl (ps.reverse++.h::st)
 | straight {b word:Nat} {ps:List Kd} {tk:Kd} {r:List Row} {sl:List (Option Kd)} {st:List Kd}:W.owners[b]?=some word→W.heads[word]?=some (ps,tk)→Sf W ss told r sl (tk::st)→Sf W ss told (.straight b (1+ps.length)::r) sl (ps.reverse++.h::st)
 | wk {r:List Row} {sl:List (Option Kd)} {st:List Kd}:Sf W ss told r sl (.h::st)→Sf W ss told r sl (.hx::st)
theorem Sf.mono {W:Wo} {ss:List Nat} {told:Kd} {r:List Row} {sl:List (Option Kd)} {st:List Kd} (h:Sf W ss told r sl st) (x:List Nat):Sf W (ss++x) told r sl st:=by
 induction h with
 | back=>exact .back
 | push a _ ih=>exact .push a ih
 | load a _ ih=>exact .load a ih
 | nt _ ih=>exact .nt ih
 | get a _ ih=>exact .get a ih
 | get3 _ ih=>exact .get3 ih
 | keep a _ ih=>exact .keep a ih
 | drop _ ih=>exact .drop ih
 | skip b a _ ih=>exact .skip b (fun q hq=>(a q hq).mono (by rw [List.length_append]; exact Nat.le_add_right _ _) (Nat.le_refl _)) ih
 | unl b _ _ ih1 ih2=>exact .unl b ih1 ih2
 | num a b _ ih=>exact .num a b ih
 | less _ ih=>exact .less ih
 | same a _ ih=>exact .same a ih
 | make a _ ih=>exact .make a ih
 | put a _ ih=>exact .put a ih
 | put3 _ ih=>exact .put3 ih
 | call a b _ ih=>exact .call (by rw [List.getElem?_append_left (List.getElem?_eq_some_iff.mp a).1]; exact a) b ih
 | straight a b _ ih=>exact .straight a b ih
 | wk _ ih=>exact .wk ih
theorem Sf.small {W:Wo} {ss:List Nat} {told:Kd} {r:List Row} {sl:List (Option Kd)} {st:List Kd} (h:Sf W ss told r sl st):∀ q∈r,Sm W ss.length sl.length q:=by
 have go:∀ {sl:List (Option Kd)} {a:Row} {r:List Row},Sm W ss.length sl.length a→(∀ q∈r,Sm W ss.length sl.length q)→∀ q∈a::r,Sm W ss.length sl.length q:=fun x y q hq=>(List.mem_cons.mp hq).elim (fun e=>e▸x) (y q)
 induction h with
 | back=>exact go trivial fun q hq=>by cases hq
 | make a _ ih=>exact go a ih
 | skip b a _ _=>exact go b a
 | unl b _ _ ih _=>exact go b ih
 | wk _ ih=>exact ih
 | call a b _ ih=>exact go ⟨(List.getElem?_eq_some_iff.mp a).1,_,_,b,rfl⟩ ih
 | straight a b _ ih=>exact go ⟨(List.getElem?_eq_some_iff.mp a).1,_,_,_,b,rfl⟩ ih
 | num _ _ _ ih=>exact go trivial ih
 | nt _ ih=>exact go trivial ih
 | get3 _ ih=>exact go (.inl rfl) ih
 | drop _ ih=>exact go trivial ih
 | less _ ih=>exact go trivial ih
 | put3 _ ih=>exact go (.inl rfl) ih
 | push _ _ ih=>exact go trivial ih
 | load a _ ih=>exact go (List.getElem?_eq_some_iff.mp a).1 ih
 | get a _ ih=>exact go (.inr a) ih
 | keep a _ ih=>exact go a (by rw [List.length_set] at ih; exact ih)
 | same _ _ ih=>exact go trivial ih
 | put a _ ih=>exact go (.inr a) ih
def Seg (W:Wo) (ss:List Nat) (rows:List Row) (sl:List (Option Kd)) (st:List Kd) (sl':List (Option Kd)) (st':List Kd):Prop:=
 ∀ x told r,Sf W (ss++x) told r sl' st'→Sf W (ss++x) told (rows++r) sl st
theorem Seg.nil {W:Wo} {ss:List Nat} {sl:List (Option Kd)} {st:List Kd}:Seg W ss [] sl st sl st:=fun _ _ _ h=>h
theorem Seg.app {W:Wo} {ss:List Nat} {a b:List Row} {s1 s2 s3:List (Option Kd)} {t1 t2 t3:List Kd} (x:Seg W ss a s1 t1 s2 t2) (y:Seg W ss b s2 t2 s3 t3):Seg W ss (a++b) s1 t1 s3 t3:=fun z told r h=>by
 rw [List.append_assoc]; exact x z told _ (y z told r h)
theorem Seg.mono {W:Wo} {ss:List Nat} {a:List Row} {s1 s2:List (Option Kd)} {t1 t2:List Kd} (h:Seg W ss a s1 t1 s2 t2) (x:List Nat):Seg W (ss++x) a s1 t1 s2 t2:=fun z told r q=>by
 rw [List.append_assoc] at q ⊢
 exact h _ told r q
theorem Seg.branch {W:Wo} {ss:List Nat} {a b:List Row} {sl:List (Option Kd)} {st:List Kd} {k:Kd} (x:Seg W ss a sl st sl (k::st)) (y:Seg W ss b sl st sl (k::st)) (la:a.length < 9000) (lb:b.length < 9000):Seg W ss ([.unl (a.length+1)]++a++[.skip b.length]++b) sl (.t::st) sl (k::st):=fun z told r h=>by
 have e:[Row.unl (a.length+1)]++a++[Row.skip b.length]++b++r=.unl (a.length+1)::(a++(.skip b.length::(b++r))):=by simp
 rw [e]
 refine .unl (by omega) (x z told _ (.skip (by omega) (y z told r h).small ?_)) ?_
 ·rw [List.drop_left]; exact h
 ·rw [List.drop_append,List.drop_eq_nil_of_le (by omega),show a.length+1 - a.length=1 by omega]
  exact y z told r h
end MT
end
section
namespace MT
open Mach
structure WOk (W:Wo) (P:Prog) (ss:List Nat):Prop where
 fl:∀ m∈W.fields,2≤m∧m≤4
 tab:∀ ho,ho < W.fields.length→∀ w,w < W.heads.length→∃ b,((P.tables[ho]?).bind fun t=>(t[w]?).join)=some b∧W.owners[b]?=some w
 blk:∀ (b w:Nat) (ps:List Kd) (tk:Kd),W.owners[b]?=some w→W.heads[w]?=some (ps,tk)→∃ B:Blk,P.blocks[b]?=some B∧B.size=1+ps.length+2∧Sf W ss tk B.rows (some .h::ps.map some++[none,none]) []
inductive Ctx (W:Wo) (P:Prog) (ss hs:List Nat):List AFr→Kd→Prop
 | nil {k:Kd}:Ctx W P ss hs [] k
 | cons {g:AFr} {gs:List AFr} {k told:Kd} {B:Blk} {sl:List (Option Kd)} {st:List Kd}:P.blocks[g.n]?=some B→Sf W ss told (B.rows.drop g.pc) sl (k::st)→SlT W hs g.sl sl→StT W hs g.st st→Ctx W P ss hs gs told→Ctx W P ss hs (g::gs) k
theorem Ctx.mono {W:Wo} {P:Prog} {ss hs:List Nat} {fs:List AFr} {k:Kd} (h:Ctx W P ss hs fs k) (x:List Nat):Ctx W P ss (hs++x) fs k:=by
 induction h with
 | nil=>exact .nil
 | cons a b c d _ ih=>exact .cons a b (c.mono x) (d.mono x) ih
def MdT (W:Wo) (made:List (Nat×List AV)):Prop:=∀ (k ho:Nat) (vs:List AV),made[k]?=some (ho,vs)→∃ m,W.fields[ho]?=some m∧vs.length=m∧∀ (j:Nat) v,vs[j]?=some v→VT W (made.map Prod.fst) v (fk j)
def MmT (W:Wo) (ss:List Nat) (m:Mem):Prop:=∀ (site w:Nat),ss[site]?=some w→∀ p∈getP m (site:Int),0≤p.2∧W.owners[p.2.toNat]?=some w
structure TyS (W:Wo) (P:Prog) (ss:List Nat) (s:MS):Prop where
 md:MdT W s.made
 mm:MmT W ss s.mem
 fr:(s.ended=none∧∃ (f:AFr) (fs:List AFr) (B:Blk) (told:Kd) (sl:List (Option Kd)) (st:List Kd),s.frames=f::fs∧P.blocks[f.n]?=some B∧Sf W ss told (B.rows.drop f.pc) sl st∧SlT W (s.made.map Prod.fst) f.sl sl∧StT W (s.made.map Prod.fst) f.st st∧Ctx W P ss (s.made.map Prod.fst) fs told)∨(s.ended≠none∧s.frames=[])
section
variable {W:Wo} {P:Prog} {ss:List Nat}
theorem go {s:MS} {f g:AFr} {fs:List AFr} {B:Blk} {told:Kd} {sl:List (Option Kd)} {st:List Kd} (md:MdT W s.made) (mm:MmT W ss s.mem) (en:s.ended=none) (hB:P.blocks[f.n]?=some B) (e:g.n=f.n) (hs:Sf W ss told (B.rows.drop g.pc) sl st) (h1:SlT W (s.made.map Prod.fst) g.sl sl) (h2:StT W (s.made.map Prod.fst) g.st st) (hc:Ctx W P ss (s.made.map Prod.fst) fs told):TyS W P ss { s with frames:=g::fs }:=
 ⟨md,mm,.inl ⟨en,g,fs,B,told,sl,st,rfl,by rw [e]; exact hB,hs,h1,h2,hc⟩⟩
theorem Z3k {s:MS} {e:End} (md:MdT W s.made) (mm:MmT W ss s.mem):TyS W P ss (ends s e):=⟨md,mm,.inr ⟨(fun z=>by cases z),rfl⟩⟩
theorem Z2P {B:Blk} {pc:Nat} {a:Row} {r:List Row} (h:B.rows.drop pc=a::r):B.rows[pc]?=some a∧B.rows.drop (pc+1)=r:=by
 have e:=congrArg List.head? h
 rw [List.head?_drop] at e
 refine ⟨e,?_⟩
 rw [← List.drop_drop,h]; rfl
theorem J4R {B:Blk} {pc n:Nat} {a:Row} {r:List Row} (h:B.rows.drop pc=a::r):B.rows.drop (pc+1+n)=r.drop n:=by
 rw [← List.drop_drop,(Z2P h).2]
theorem VT.house {hs:List Nat} {v:AV} (h:VT W hs v .h):∃ k ho,v=.th k∧hs[k]?=some ho:=by
 cases h with
 | th a=>exact ⟨_,_,rfl,a⟩
theorem Z3p {made:List (Nat×List AV)} {k ho:Nat} (h:(made.map Prod.fst)[k]?=some ho):∃ vs,made[k]?=some (ho,vs):=by
 rw [List.getElem?_map] at h
 obtain ⟨t,h1,h2⟩:=Option.map_eq_some_iff.mp h
 exact ⟨t.2,by rw [h1,← h2]⟩
theorem VT.of0 {hs:List Nat} {v:AV} {k:Kd} (h:VT W [] v k):VT W hs v k:=by have:=h.mono hs; rwa [List.nil_append] at this
theorem Z5e {hs:List Nat} {n:Int}:(∃ v,told n=.inl v∧VT W hs v .n)∨∃ e,told n=.inr e:=by
 unfold told
 split
 ·exact .inl ⟨_,rfl,.int (by assumption)⟩
 ·exact .inr ⟨_,rfl⟩
theorem Z6N (wk:WOk W P ss) {s:MS} {f:AFr} {fs:List AFr} {B:Blk} {b word:Nat} {ps:List Kd} {tk told:Kd} {sl:List (Option Kd)} {st:List Kd} (md:MdT W s.made) (mm:MmT W ss s.mem) (en:s.ended=none) (hB:P.blocks[f.n]?=some B) (hs:Sf W ss told (B.rows.drop (f.pc+1)) sl (tk::st)) (h1:SlT W (s.made.map Prod.fst) f.sl sl)
  (h2:StT W (s.made.map Prod.fst) f.st (ps.reverse++.h::st)) (hc:Ctx W P ss (s.made.map Prod.fst) fs told) (ho:W.owners[b]?=some word) (hh:W.heads[word]?=some (ps,tk)):∃ s',enter P s f fs b (1+ps.length)=some s'∧TyS W P ss s':=by
 unfold enter
 by_cases h:P.most≤s.calls
 ·exact ⟨_,if_pos h,Z3k md mm⟩
 rw [if_neg h]
 by_cases h:40 < fs.length+1
 ·exact ⟨_,if_pos h,Z3k (s:={ s with calls:=s.calls+1 }) md mm⟩
 rw [if_neg h]
 obtain ⟨C,hC,hz,hsf⟩:=wk.blk b word ps tk ho hh
 have el:(ps.reverse++[Kd.h]).length=1+ps.length:=by rw [List.length_append,List.length_reverse]; exact Nat.add_comm _ _
 have h2':StT W (s.made.map Prod.fst) f.st ((ps.reverse++[.h])++st):=by rw [List.append_assoc]; exact h2
 obtain ⟨a1,a2⟩:=h2'.split
 rw [el] at a1 a2
 have lf:1+ps.length≤f.st.length:=by
  have:=a1.len
  rw [el,List.length_take] at this
  omega
 rw [if_pos lf,hC]
 show ∃ s',(if 1+ps.length≤C.size then _ else _)=some s'∧_
 rw [if_pos (by omega)]
 refine ⟨_,rfl,md,mm,.inl ⟨en,_,_,C,tk,some .h::ps.map some++[none,none],[],rfl,hC,?_,?_,.nil,.cons hB hs h1 a2 hc⟩⟩
 ·rw [List.drop_zero]; exact hsf
 ·have r:=a1.rev
  rw [List.reverse_append,List.reverse_reverse] at r
  have lr:((f.st.take (1+ps.length)).reverse).length=1+ps.length:=by rw [List.length_reverse,List.length_take]; omega
  refine ⟨?_,fun i v k e1 e2=>?_⟩
  ·simp only [List.length_append,List.length_cons,List.length_map,List.length_nil,List.length_replicate,lr]; omega
  ·have hi:i < 1+ps.length:=by
    rcases Nat.lt_or_ge i (1+ps.length) with z | z
    ·exact z
    ·rw [show (some Kd.h::ps.map some++[none,none]:List (Option Kd))=(some Kd.h::ps.map some)++[none,none] from rfl,List.getElem?_append_right (by rw [List.length_cons,List.length_map]; omega)] at e2
     have:=List.mem_of_getElem? e2
     simp at this
   rw [List.getElem?_append_left (by omega)] at e1
   rw [show (some Kd.h::ps.map some++[none,none]:List (Option Kd))=(Kd.h::ps).map some++[none,none] from rfl,List.getElem?_append_left (by rw [List.length_map,List.length_cons]; omega),List.getElem?_map] at e2
   obtain ⟨k',e3,e4⟩:=Option.map_eq_some_iff.mp e2
   cases e4
   exact r.at e1 e3
theorem J0Z (wk:WOk W P ss) {s:MS} {house site word:Nat} (md:MdT W s.made) (mm:MmT W ss s.mem) (hs:ss[site]?=some word) (hh:house < W.fields.length) (hw:word < W.heads.length):∃ b s',found P s house site word=some (b,s')∧W.owners[b]?=some word∧s'.made=s.made∧MmT W ss s'.mem∧s'.ended=s.ended∧s'.frames=s.frames:=by
 obtain ⟨b,hb,ob⟩:=wk.tab house hh word hw
 have upd:∀ ps:PL,(∀ p∈ps,0≤p.2∧W.owners[p.2.toNat]?=some word)→MmT W ss (updM s.mem site ps):=fun ps h st w hw p hp=>by
  unfold getP updM at hp
  by_cases e:(st:Int)=site
  ·rw [if_pos e] at hp
   have e:st=site:=by omega
   subst e
   rw [hs] at hw
   cases hw
   exact h p hp
  ·rw [if_neg e] at hp
   exact mm st w hw p hp
 unfold found
 rw [hb]
 cases hr:P.rem with
 | false=>exact ⟨b,_,rfl,ob,rfl,mm,rfl,rfl⟩
 | true=>
  have ms:=mm site word hs
  show ∃ b' s',(match seen (getP s.mem site) house with | (_,b)::_=>_ | []=>_)=some (b',s')∧_
  cases hq:seen (getP s.mem site) house with
  | nil=>
   refine ⟨b,_,rfl,ob,rfl,upd _ (fun p hp=>?_),rfl,rfl⟩
   rcases List.mem_cons.mp (List.mem_of_mem_take hp) with e | e
   ·rw [e]; exact ⟨Int.natCast_nonneg b,by rw [Int.toNat_natCast]; exact ob⟩
   ·exact ms p e
  | cons p l=>
   have hp:p∈getP s.mem site:=(List.mem_filter.mp (show p∈seen (getP s.mem site) house by rw [hq]; exact List.mem_cons_self)).1
   refine ⟨p.2.toNat,_,rfl,(ms p hp).2,rfl,upd _ (fun q hq2=>?_),rfl,rfl⟩
   rcases List.mem_append.mp hq2 with e | e
   ·rw [← hq] at e; exact ms q (List.mem_filter.mp e).1
   ·exact ms q (List.mem_filter.mp e).1
theorem J1T {s:MS} {f:AFr} {fs:List AFr} {B:Blk} {k ho pl:Nat} {v:AV} {vs st':List AV} {told:Kd} {sl:List (Option Kd)} {st:List Kd} (md:MdT W s.made) (mm:MmT W ss s.mem) (en:s.ended=none) (hB:P.blocks[f.n]?=some B) (hst:f.st=v::.th k::st') (e:s.made[k]?=some (ho,vs)) (hlt:pl < vs.length) (hv:VT W (s.made.map Prod.fst) v (fk pl))
  (hs:Sf W ss told (B.rows.drop (f.pc+1)) sl (fk pl::st)) (h1:SlT W (s.made.map Prod.fst) f.sl sl) (t:StT W (s.made.map Prod.fst) st' st) (hc:Ctx W P ss (s.made.map Prod.fst) fs told):∃ s',rowM P s f fs (.put pl)=some s'∧TyS W P ss s':=by
 have em:(s.made.set k (ho,vs.set pl v)).map Prod.fst=s.made.map Prod.fst:=by
  rw [List.map_set]
  refine List.ext_getElem? fun i=>?_
  rw [List.getElem?_set]
  split
  ·rename_i hi
   subst hi
   have hl:=(List.getElem?_eq_some_iff.mp e).1
   rw [if_pos (by rw [List.length_map]; exact hl),List.getElem?_map,e]; rfl
  ·rfl
 have md':MdT W (s.made.set k (ho,vs.set pl v)):=fun j h' us hj=>by
  rw [em]
  rw [List.getElem?_set] at hj
  by_cases z:k=j
  ·rw [if_pos z] at hj
   split at hj
   ·cases hj
    obtain ⟨m,b1,b2,b3⟩:=md k ho vs e
    refine ⟨m,b1,by rw [List.length_set]; exact b2,fun i u hu=>?_⟩
    rw [List.getElem?_set] at hu
    by_cases zi:pl=i
    ·rw [if_pos zi] at hu
     rw [if_pos hlt] at hu
     cases hu; subst zi; exact hv
    ·rw [if_neg zi] at hu; exact b3 i u hu
   ·cases hj
  ·rw [if_neg z] at hj; exact md j h' us hj
 refine ⟨{ s with made:=s.made.set k (ho,vs.set pl v),frames:={ f with pc:=f.pc+1,st:=v::st' }::fs },?_,md',mm,.inl ⟨en,{ f with pc:=f.pc+1,st:=v::st' },fs,B,told,sl,_,rfl,hB,hs,?_,?_,?_⟩⟩
 ·unfold rowM
  dsimp only
  rw [hst]
  dsimp only
  rw [e]
  show (if pl < vs.length then _ else _)=_
  rw [if_pos hlt]
 ·show SlT W ((s.made.set k (ho,vs.set pl v)).map Prod.fst) _ _
  rw [em]; exact h1
 ·show StT W ((s.made.set k (ho,vs.set pl v)).map Prod.fst) _ _
  rw [em]; exact .cons hv t
 ·show Ctx W P ss ((s.made.set k (ho,vs.set pl v)).map Prod.fst) _ _
  rw [em]; exact hc
theorem J3H (wk:WOk W P ss) {told:Kd} {r:List Row} {sl:List (Option Kd)} {st:List Kd} (h:Sf W ss told r sl st):∀ (s:MS) (f:AFr) (fs:List AFr) (B:Blk),MdT W s.made→MmT W ss s.mem→s.ended=none→P.blocks[f.n]?=some B→B.rows.drop f.pc=r→SlT W (s.made.map Prod.fst) f.sl sl→StT W (s.made.map Prod.fst) f.st st→Ctx W P ss (s.made.map Prod.fst) fs told →
  ∃ a r',r=a::r'∧∃ s',rowM P s f fs a=some s'∧TyS W P ss s':=by
 induction h with
 | wk _ ih=>
  intro s f fs B md mm en hB hr h1 h2 hc
  generalize hst:f.st=fst at h2
  cases h2 with
  | cons v t=>exact ih s f fs B md mm en hB hr h1 (by rw [hst]; exact .cons v.wk t) hc
 | @back sl st=>
  intro s f fs B md mm en hB hr h1 h2 hc
  refine ⟨_,_,rfl,?_⟩
  unfold rowM
  generalize hst:f.st=fst at h2
  cases h2 with
  | @cons v _ _ _ hv t=>
   cases hc with
   | nil=>
    cases hv with
    | int b=>exact ⟨_,rfl,Z3k md mm⟩
    | bl=>exact ⟨_,rfl,Z3k md mm⟩
    | @th k ho a=>
     obtain ⟨vs,e⟩:=Z3p a
     refine ⟨ends s (.thing ho),?_,Z3k md mm⟩
     show (s.made[_]?).map _=_
     rw [e]; rfl
    | @tx k ho a _=>
     obtain ⟨vs,e⟩:=Z3p a
     refine ⟨ends s (.thing ho),?_,Z3k md mm⟩
     show (s.made[_]?).map _=_
     rw [e]; rfl
   | @cons g gs _ tk C sl' st' a b c d e=>exact ⟨_,rfl,md,mm,.inl ⟨en,_,_,C,tk,sl',_,rfl,a,b,c,.cons hv d,e⟩⟩
 | push a hs _=>
  intro s f fs B md mm en hB hr h1 h2 hc
  exact ⟨_,_,rfl,_,rfl,go (g:={ f with pc:=f.pc+1,st:=_::f.st }) md mm en hB rfl (by rw [(Z2P hr).2]; exact hs) h1 (.cons a.of0 h2) hc⟩
 | @load i k r sl st a hs _=>
  intro s f fs B md mm en hB hr h1 h2 hc
  have hi:i < f.sl.length:=by rw [h1.1]; exact (List.getElem?_eq_some_iff.mp a).1
  have e:f.sl[i]?=some f.sl[i]:=List.getElem?_eq_getElem hi
  refine ⟨_,_,rfl,_,?_,go (g:={ f with pc:=f.pc+1,st:=f.sl[i]::f.st }) md mm en hB rfl (by rw [(Z2P hr).2]; exact hs) h1 (.cons (h1.2 i _ k e a) h2) hc⟩
  show ((f.sl[i]?).map _).map _=_
  rw [e]; rfl
 | nt hs _=>
  intro s f fs B md mm en hB hr h1 h2 hc
  generalize hst:f.st=fst at h2
  cases h2 with
  | cons v t=>
   cases v with
   | @bl b=>
    refine ⟨_,_,rfl,_,?_,go (g:={ f with pc:=f.pc+1,st:=.bl (!b)::_ }) md mm en hB rfl (by rw [(Z2P hr).2]; exact hs) h1 (.cons .bl t) hc⟩
    unfold rowM own
    dsimp only
    rw [hst]; rfl
 | @get pl r sl st hp hs _=>
  intro s f fs B md mm en hB hr h1 h2 hc
  generalize hst:f.st=fst at h2
  cases h2 with
  | cons v t=>
   obtain ⟨k,ho,rfl,hk⟩:=v.house
   obtain ⟨vs,e⟩:=Z3p hk
   obtain ⟨m,g1,g2,g3⟩:=md k ho vs e
   have hlt:pl < vs.length:=by rw [g2]; exact hp m (List.mem_of_getElem? g1)
   have ev:vs[pl]?=some vs[pl]:=List.getElem?_eq_getElem hlt
   refine ⟨_,_,rfl,_,?_,go (g:={ f with pc:=f.pc+1,st:=vs[pl]::_ }) md mm en hB rfl (by rw [(Z2P hr).2]; exact hs) h1 (.cons (g3 pl _ ev) t) hc⟩
   unfold rowM own
   dsimp only
   rw [hst]
   dsimp only
   rw [e]
   show (((vs[pl]?).map _)).map _=_
   rw [ev]; rfl
 | @get3 r sl st hs _=>
  intro s f fs B md mm en hB hr h1 h2 hc
  generalize hst:f.st=fst at h2
  cases h2 with
  | cons v t=>
   cases v with
   | @tx k ho hk h4=>
   obtain ⟨vs,e⟩:=Z3p hk
   obtain ⟨m,g1,g2,g3⟩:=md k ho vs e
   rw [h4] at g1
   cases g1
   have ev:vs[3]?=some vs[3]:=List.getElem?_eq_getElem (by omega)
   refine ⟨_,_,rfl,_,?_,go (g:={ f with pc:=f.pc+1,st:=vs[3]::_ }) md mm en hB rfl (by rw [(Z2P hr).2]; exact hs) h1 (.cons (g3 3 _ ev) t) hc⟩
   unfold rowM own
   dsimp only
   rw [hst]
   dsimp only
   rw [e]
   show (((vs[3]?).map _)).map _=_
   rw [ev]; rfl
 | @keep i k r sl st hi hs _=>
  intro s f fs B md mm en hB hr h1 h2 hc
  generalize hst:f.st=fst at h2
  cases h2 with
  | @cons v _ st' _ hv t=>
   refine ⟨_,_,rfl,_,?_,go (g:={ f with pc:=f.pc+1,sl:=f.sl.set i v,st:=st' }) md mm en hB rfl (by rw [(Z2P hr).2]; exact hs) (h1.put i hv) t hc⟩
   unfold rowM own
   dsimp only
   rw [hst]
   dsimp only
   rw [if_pos (by rw [h1.1]; exact hi)]; rfl
 | drop hs _=>
  intro s f fs B md mm en hB hr h1 h2 hc
  generalize hst:f.st=fst at h2
  cases h2 with
  | @cons v _ st' _ hv t=>
   refine ⟨_,_,rfl,_,?_,go (g:={ f with pc:=f.pc+1,st:=st' }) md mm en hB rfl (by rw [(Z2P hr).2]; exact hs) h1 t hc⟩
   unfold rowM own
   dsimp only
   rw [hst]; rfl
 | @skip n r sl st _ _ hs _=>
  intro s f fs B md mm en hB hr h1 h2 hc
  exact ⟨_,_,rfl,_,rfl,go (g:={ f with pc:=f.pc+1+n }) md mm en hB rfl (by rw [J4R hr]; exact hs) h1 h2 hc⟩
 | @unl n r sl st _ hs hs2 _ _=>
  intro s f fs B md mm en hB hr h1 h2 hc
  generalize hst:f.st=fst at h2
  cases h2 with
  | @cons v _ st' _ hv t=>
   cases hv with
   | @bl b=>
    refine ⟨_,_,rfl,_,?_,go (g:={ f with pc:=f.pc+1+(if b then 0 else n),st:=st' }) (sl:=sl) (st:=st) md mm en hB rfl ?_ h1 t hc⟩
    ·unfold rowM own
     dsimp only
     rw [hst]; rfl
    ·show Sf W ss _ (B.rows.drop (f.pc+1+(if b then 0 else n))) sl st
     rw [J4R hr]
     cases b with
     | false=>exact hs2
     | true=>exact hs
 | @num g r sl st n1 n2 hs _=>
  intro s f fs B md mm en hB hr h1 h2 hc
  generalize hst:f.st=fst at h2
  cases h2 with
  | cons v t=>
   cases t with
   | @cons u _ st' _ hu t=>
    cases v with
    | @int y hy=>
     cases hu with
     | @int x hx=>
      have key:∀ o,two g (.int x) (.int y)=some o→((∃ v,o=.inl v∧VT W (s.made.map Prod.fst) v .n)∨∃ e,o=.inr e)→∃ s',rowM P s f fs (.two g)=some s'∧TyS W P ss s':=fun o ho hor=>by
       have e:rowM P s f fs (.two g)=some (match (match o with | .inl v=>(Sum.inl { f with pc:=f.pc+1,st:=v::st' }:AFr ⊕ End) | .inr e=>.inr e) with | .inl f'=>{ s with frames:=f'::fs } | .inr e=>ends s e):=by
        unfold rowM own
        dsimp only
        rw [hst]
        dsimp only
        rw [ho]; rfl
       rcases hor with ⟨v,rfl,hv⟩ | ⟨z,rfl⟩
       ·exact ⟨_,e,go (g:={ f with pc:=f.pc+1,st:=v::st' }) md mm en hB rfl (by rw [(Z2P hr).2]; exact hs) h1 (.cons hv t) hc⟩
       ·exact ⟨_,e,Z3k md mm⟩
      refine ⟨_,_,rfl,?_⟩
      cases g with
      | add=>exact key _ rfl Z5e
      | sub=>exact key _ rfl Z5e
      | mul=>exact key _ rfl Z5e
      | div=>
       refine key _ rfl ?_
       by_cases z:y=0
       ·rw [if_pos z]; exact .inr ⟨_,rfl⟩
       ·rw [if_neg z]; exact Z5e
      | less=>exact absurd rfl n1
      | same=>exact absurd rfl n2
 | @less r sl st hs _=>
  intro s f fs B md mm en hB hr h1 h2 hc
  generalize hst:f.st=fst at h2
  cases h2 with
  | cons v t=>
   cases t with
   | @cons u _ st' _ hu t=>
    cases v with
    | @int y hy=>
     cases hu with
     | @int x hx=>
      refine ⟨_,_,rfl,_,?_,go (g:={ f with pc:=f.pc+1,st:=.bl (decide (x < y))::st' }) md mm en hB rfl (by rw [(Z2P hr).2]; exact hs) h1 (.cons .bl t) hc⟩
      unfold rowM own
      dsimp only
      rw [hst]; rfl
 | @same k r sl st hk hs _=>
  intro s f fs B md mm en hB hr h1 h2 hc
  generalize hst:f.st=fst at h2
  cases h2 with
  | @cons v _ _ _ hv t=>
   cases t with
   | @cons u _ st' _ hu t=>
    have key:∀ b,two .same u v=some (.inl (.bl b))→∃ s',rowM P s f fs (.two .same)=some s'∧TyS W P ss s':=fun b hb=>by
     refine ⟨_,?_,go (g:={ f with pc:=f.pc+1,st:=.bl b::st' }) md mm en hB rfl (by rw [(Z2P hr).2]; exact hs) h1 (.cons .bl t) hc⟩
     unfold rowM own
     dsimp only
     rw [hst]
     dsimp only
     rw [hb]; rfl
    refine ⟨_,_,rfl,?_⟩
    cases hv with
    | int _=>cases hu with | int _=>exact key _ rfl
    | bl=>cases hu with | bl=>exact key _ rfl
    | th _=>cases hu with | th _=>exact key _ rfl
    | tx _ _=>exact absurd rfl hk
 | @make ho m r sl st hf hs _=>
  intro s f fs B md mm en hB hr h1 h2 hc
  have el:(((List.range m).map fk).reverse).length=m:=by rw [List.length_reverse,List.length_map,List.length_range]
  obtain ⟨a1,a2⟩:=h2.split
  rw [el] at a1 a2
  have lf:m≤f.st.length:=by
   have:=a1.len
   rw [el,List.length_take] at this
   omega
  have em:(s.made++[(ho,(f.st.take m).reverse)]).map Prod.fst=s.made.map Prod.fst++[ho]:=by rw [List.map_append]; rfl
  have md':MdT W (s.made++[(ho,(f.st.take m).reverse)]):=fun k h' vs e=>by
   rw [em]
   rcases Nat.lt_or_ge k s.made.length with z | z
   ·rw [List.getElem?_append_left z] at e
    obtain ⟨m',b1,b2,b3⟩:=md k h' vs e
    exact ⟨m',b1,b2,fun j v hv=>(b3 j v hv).mono _⟩
   ·rw [List.getElem?_append_right z] at e
    have:=List.mem_of_getElem? e
    cases List.mem_singleton.mp this
    have r1:=a1.rev
    rw [List.reverse_reverse] at r1
    refine ⟨m,hf,by rw [List.length_reverse,List.length_take]; omega,fun j v hv=>(r1.at hv ?_).mono _⟩
    have hj:j < m:=by
     have:=(List.getElem?_eq_some_iff.mp hv).1
     rw [List.length_reverse,List.length_take] at this
     omega
    rw [List.getElem?_map,List.getElem?_range hj]; rfl
  have hk:(s.made.map Prod.fst++[ho])[s.made.length]?=some ho:=by
   rw [List.getElem?_append_right (by rw [List.length_map]; exact Nat.le_refl _),List.length_map,Nat.sub_self]; rfl
  refine ⟨_,_,rfl,{ s with made:=s.made++[(ho,(f.st.take m).reverse)],frames:={ f with pc:=f.pc+1,st:=.th s.made.length::f.st.drop m }::fs },?_,md',mm,.inl ⟨en,{ f with pc:=f.pc+1,st:=.th s.made.length::f.st.drop m },fs,B,_,sl,_,rfl,hB,(by show Sf W ss _ (B.rows.drop (f.pc+1)) _ _; rw [(Z2P hr).2]; exact hs),?_,?_,?_⟩⟩
  ·unfold rowM
   dsimp only
   rw [if_pos lf]
  ·show SlT W ((s.made++[(ho,(f.st.take m).reverse)]).map Prod.fst) _ _
   rw [em]; exact h1.mono _
  ·show StT W ((s.made++[(ho,(f.st.take m).reverse)]).map Prod.fst) _ _
   rw [em]
   refine .cons ?_ (a2.mono _)
   split
   ·rename_i h4; exact .tx hk (by rw [hf,h4])
   ·exact .th hk
  ·show Ctx W P ss ((s.made++[(ho,(f.st.take m).reverse)]).map Prod.fst) _ _
   rw [em]; exact hc.mono _
 | @put pl r sl st hp hs _=>
  intro s f fs B md mm en hB hr h1 h2 hc
  generalize hst:f.st=fst at h2
  cases h2 with
  | @cons v _ _ _ hv t=>
   cases t with
   | @cons u _ st' _ hu t=>
    obtain ⟨k,ho,rfl,hk⟩:=hu.house
    obtain ⟨vs,e⟩:=Z3p hk
    obtain ⟨m,g1,g2,g3⟩:=md k ho vs e
    have hlt:pl < vs.length:=by rw [g2]; exact hp m (List.mem_of_getElem? g1)
    exact ⟨_,_,rfl,J1T md mm en hB hst e hlt hv (by rw [(Z2P hr).2]; exact hs) h1 t hc⟩
 | @put3 r sl st hs _=>
  intro s f fs B md mm en hB hr h1 h2 hc
  generalize hst:f.st=fst at h2
  cases h2 with
  | @cons v _ _ _ hv t=>
   cases t with
   | @cons u _ st' _ hu t=>
    cases hu with
    | @tx k ho hk h4=>
    obtain ⟨vs,e⟩:=Z3p hk
    obtain ⟨m,g1,g2,g3⟩:=md k ho vs e
    rw [h4] at g1
    cases g1
    exact ⟨_,_,rfl,J1T (pl:=3) md mm en hB hst e (by omega) hv (by rw [(Z2P hr).2]; exact hs) h1 t hc⟩
 | @straight b word ps tk r sl st ho hh hs _=>
  intro s f fs B md mm en hB hr h1 h2 hc
  exact ⟨_,_,rfl,Z6N wk md mm en hB (by rw [(Z2P hr).2]; exact hs) h1 h2 hc ho hh⟩
 | @call site word ps tk r sl st hw hh hs _=>
  intro s f fs B md mm en hB hr h1 h2 hc
  have h2':StT W (s.made.map Prod.fst) f.st ((ps.reverse++[.h])++st):=by rw [List.append_assoc]; exact h2
  have el:(ps.reverse++[Kd.h]).length=1+ps.length:=by rw [List.length_append,List.length_reverse]; exact Nat.add_comm _ _
  obtain ⟨a1,a2⟩:=h2'.split
  rw [el] at a1
  have lf:1+ps.length≤f.st.length:=by
   have:=a1.len
   rw [el,List.length_take] at this
   omega
  have r1:=a1.rev
  rw [List.reverse_append,List.reverse_reverse] at r1
  generalize hrev:(f.st.take (1+ps.length)).reverse=rv at r1
  cases r1 with
  | @cons v _ rest _ hv _=>
   obtain ⟨k,ho,rfl,hk⟩:=hv.house
   obtain ⟨vs,e⟩:=Z3p hk
   obtain ⟨m,g1,_⟩:=md k ho vs e
   obtain ⟨b,s1,hfo,ob,e1,mm1,e2,e3⟩:=J0Z wk md mm hw (List.getElem?_eq_some_iff.mp g1).1 (List.getElem?_eq_some_iff.mp hh).1
   obtain ⟨s2,he,ty⟩:=Z6N (s:=s1) wk (by rw [e1]; exact md) mm1 (by rw [e2]; exact en) hB (by rw [(Z2P hr).2]; exact hs) (by rw [e1]; exact h1) (by rw [e1]; exact h2) (by rw [e1]; exact hc) ob hh
   refine ⟨_,_,rfl,s2,?_,ty⟩
   unfold rowM
   dsimp only
   rw [hrev]
   dsimp only
   rw [if_pos lf,e]
   show (found P s ho site word).bind _=_
   rw [hfo]
   exact he
theorem J1U (wk:WOk W P ss) {s:MS} (t:TyS W P ss s) (en:s.ended=none):∃ s',step P s=some s'∧TyS W P ss s':=by
 rcases t.fr with ⟨_,f,fs,B,told,sl,st,e,hB,hsf,h1,h2,hc⟩ | ⟨n,_⟩
 ·obtain ⟨a,r,hr,s',h3,h4⟩:=J3H wk hsf { s with rows:=s.rows+1 } f fs B t.md t.mm en hB rfl h1 h2 hc
  refine ⟨s',?_,h4⟩
  rw [Z8S en e (r:=a)]
  ·exact h3
  ·unfold row?
   rw [hB]
   exact (Z2P hr).1
 ·exact absurd en n
end
end MT
end
section
namespace L2
open PySem PySem.Spec PyProof.Rows
end L2
namespace L2
open PySem PySem.Spec PyProof.Rows
theorem Z9X {K:W.Frag} {a:Addr} {tc:TT} {Q:VK} {H:Hp} {D:Addr} {ys:List V} {σ0:St} (v0:Option V) (rest:St) (p:Nat→Bool) (e0:σ0=v0::rest) (hD:H D=none) (hz:ys.length≤sizeLine) (ha:∀ H1,Same H H1→SqL K H1 a ys)
  (hc:∀ i y,ys[i]?=some y→∀ H1 (K':Bool→Hp→Prop),Same H H1→(∀ H2,Same H1 H2→K' (p i) H2)→tc (some y::rest) H1 K')
  (hQ:∀ zs H',Same H H'→H' D=some (.lst zs)→(zs=[]→∀ i,i < ys.length→p i=false)→((∀ i,i < ys.length→p i=false)→zs=[])→Q (.ref D) H'):Z3P (Itl K a) (Z3A 0) tc (Z7Q 0) D Q σ0 (upd H D (.lst [])):=by
 refine ⟨fun i m σ' H'=>m=ys.length - i∧i≤ys.length∧(∃ v,σ'=v::rest)∧Same H H'∧∃ zs,H' D=some (.lst zs)∧zs.length≤i∧(zs=[]→∀ j,j < i→p j=false)∧((∀ j,j < i→p j=false)→zs=[]),⟨ys.length,by simp,Nat.zero_le _,⟨v0,e0⟩,Z0i hD _,[],Z0e,Nat.le_refl _,fun _ j h=>absurd h (Nat.not_lt_zero _),fun _=>rfl⟩,?_⟩
 rintro i m σ' H' ⟨rfl,hi,⟨v,rfl⟩,s1,zs,hv,hzl,f1,f2⟩
 have hq:=ha H' s1
 by_cases hlt:i < ys.length
 ·refine .inr ⟨⟨ys,ys[i],hq,List.getElem?_eq_getElem hlt⟩,fun σ2 H2=>(∃ v,σ2=v::rest)∧Same H H2∧∃ zs,H2 D=some (.lst zs)∧zs.length≤i+1∧(zs=[]→∀ j,j < i+1→p j=false)∧((∀ j,j < i+1→p j=false)→zs=[]),fun σ2 H2 ⟨a,b,c⟩=>⟨ys.length - (i+1),by omega,rfl,hlt,a,b,c⟩,fun x H2 hx=>?_⟩
  obtain ⟨e1,e2⟩:=hx
  subst e1
  have ex:=e2 ys hq
  unfold Z3A
  rw [List.set_cons_zero]
  refine hc i x ex H2 _ s1 fun H3 s3=>?_
  have h3:=s3 _ _ hv
  cases e:p i with
  | true=>
   rw [if_pos rfl]
   refine ⟨_,h3,by omega,⟨_,rfl⟩,fun b o hb=>?_,_,Z0e,by rw [List.length_append]; exact Nat.succ_le_succ hzl,fun z=>absurd z (by simp),fun h=>?_⟩
   ·rw [Z0h (Z0t hb hD)]
    exact s3 _ _ (s1 _ _ hb)
   ·rw [h i (Nat.lt_succ_self _)] at e; cases e
  | false=>
   rw [if_neg (by decide)]
   refine ⟨⟨_,rfl⟩,s1.trans s3,zs,h3,by omega,fun z j hj=>?_,fun h=>f2 fun j hj=>h j (by omega)⟩
   by_cases ej:j=i
   ·rw [ej]; exact e
   ·exact f1 z j (by omega)
 ·have e:i=ys.length:=by omega
  subst e
  exact .inl ⟨⟨ys,hq,Nat.le_refl _⟩,hQ zs H' s1 hv f1 f2⟩
end L2
end
section
namespace L2
open PySem PySem.Spec PyProof.Rows
theorem Z2V {tc:TT} {Q:VK} {H:Hp} {D:Addr} {n:Nat} {σ0:St} (v0:Option V) (rest:St) (p:Nat→Bool) (e0:σ0=v0::rest) (hD:H D=none) (hz:n≤sizeLine)
  (hc:∀ i,i < n→∀ H1 (K':Bool→Hp→Prop),Same H H1→(∀ H2,Same H1 H2→K' (p i) H2)→tc (some (.int i)::rest) H1 K')
  (hQ:∀ H',Same H H'→H' D=some (.lst (((List.range n).filter p).map fun i:Nat=>V.int i))→Q (.ref D) H'):Z3P (Itr 0 n) (Z3A 0) tc (Z7Q 0) D Q σ0 (upd H D (.lst [])):=by
 refine ⟨fun i m σ' H'=>m=n - i∧i≤n∧(∃ v,σ'=v::rest)∧Same H H'∧H' D=some (.lst (((List.range i).filter p).map fun i:Nat=>V.int i)),⟨n,by simp,Nat.zero_le _,⟨v0,e0⟩,Z0i hD _,Z0e⟩,?_⟩
 rintro i m σ' H' ⟨rfl,hi,⟨v,rfl⟩,s1,hv⟩
 by_cases hlt:i < n
 ·refine .inr ⟨hlt,fun σ2 H2=>(∃ v,σ2=v::rest)∧Same H H2∧H2 D=some (.lst (((List.range (i+1)).filter p).map fun i:Nat=>V.int i)),fun σ2 H2 ⟨a,b,c⟩=>⟨n - (i+1),by omega,rfl,hlt,a,b,c⟩,fun x H2 hx=>?_⟩
  obtain ⟨e1,e2⟩:=hx
  subst e1 e2
  unfold Z3A
  rw [List.set_cons_zero,Int.zero_add]
  refine hc i hlt H2 _ s1 fun H3 s3=>?_
  have h3:=s3 _ _ hv
  rw [List.range_succ,List.filter_append,List.map_append]
  cases e:p i with
  | true=>
   rw [if_pos rfl]
   refine ⟨_,h3,?_,⟨_,rfl⟩,fun b o hb=>?_,?_⟩
   ·rw [List.length_map]
    have:=List.length_filter_le p (List.range i)
    rw [List.length_range] at this
    omega
   ·rw [Z0h (Z0t hb hD)]
    exact s3 _ _ (s1 _ _ hb)
   ·rw [Z0e,List.filter_cons,e]
    rfl
  | false=>
   rw [if_neg (by decide)]
   refine ⟨⟨_,rfl⟩,s1.trans s3,?_⟩
   rw [List.filter_cons,e,h3]
   simp
 ·have e:i=n:=by omega
  subst e
  exact .inl ⟨Nat.le_refl _,hQ H' s1 hv⟩
end L2
end
section
namespace L2
open PySem PySem.Spec PyProof.Rows PySem.SeqAt
structure Nb (k n:Nat) (d:PyData):Prop where
 lay:d.canLay0=true
 sho:d.showable=true
 leaf:d.leavesShort 30=true
 dep:d.depth≤k
 bk:d.bulk≤n
structure NbL (k n:Nat) (ds:List PyData):Prop where
 lay:PyData.canLayAll0 ds=true
 sho:PyData.showableAll ds=true
 leaf:PyData.leavesShortAll 30 ds=true
 dep:PyData.depthAll ds≤k
 bk:PyData.bulkAll ds≤n
theorem Nb.mono {k n k' n':Nat} {d:PyData} (h:Nb k n d) (hk:k≤k') (hn:n≤n'):Nb k' n' d:=⟨h.lay,h.sho,h.leaf,Nat.le_trans h.dep hk,Nat.le_trans h.bk hn⟩
theorem NbL.mono {k n k' n':Nat} {d:List PyData} (h:NbL k n d) (hk:k≤k') (hn:n≤n'):NbL k' n' d:=⟨h.lay,h.sho,h.leaf,Nat.le_trans h.dep hk,Nat.le_trans h.bk hn⟩
theorem NbL.nil {k n:Nat}:NbL k n []:=⟨rfl,rfl,rfl,Nat.zero_le _,Nat.zero_le _⟩
theorem NbL.cons {k a b n:Nat} {d:PyData} {ds:List PyData} (h:Nb k a d) (hs:NbL k b ds) (hn:a+1+b≤n):NbL k n (d::ds) where
 lay:=by rw [PyData.canLayAll0,h.lay,hs.lay]; rfl
 sho:=by rw [PyData.showableAll,h.sho,hs.sho]; rfl
 leaf:=by rw [PyData.leavesShortAll,h.leaf,hs.leaf]; rfl
 dep:=by rw [PyData.depthAll]; exact Nat.max_le.mpr ⟨h.dep,hs.dep⟩
 bk:=by rw [PyData.bulkAll]; have:=h.bk; have:=hs.bk; omega
theorem NbL.snoc {k a b n:Nat} {d:PyData}:∀ {ds:List PyData},NbL k b ds→Nb k a d→a+1+b≤n→NbL k n (ds++[d])
 | [],h,h',hn=>.cons h' (b:=b) .nil (by omega)
 | e::ds,h,h',hn=>by
  have l:=h.lay
  have s:=h.sho
  have f:=h.leaf
  have p:=h.dep
  have w:=h.bk
  rw [PyData.canLayAll0,Bool.and_eq_true] at l
  rw [PyData.showableAll,Bool.and_eq_true] at s
  rw [PyData.leavesShortAll,Bool.and_eq_true] at f
  rw [PyData.depthAll] at p
  rw [PyData.bulkAll] at w
  have p:=Nat.max_le.mp p
  exact NbL.cons (a:=e.bulk) (b:=PyData.bulkAll ds+a+1) ⟨l.1,s.1,f.1,p.1,Nat.le_refl _⟩ (NbL.snoc (b:=PyData.bulkAll ds) ⟨l.2,s.2,f.2,p.2,Nat.le_refl _⟩ h' (by omega)) (by omega)
theorem Nb.tup {k n:Nat} {ds:List PyData} (h:NbL k n ds):Nb (k+1) n (.tuple ds) where
 lay:=by rw [PyData.canLay0]; exact h.lay
 sho:=by rw [PyData.showable]; exact h.sho
 leaf:=by rw [PyData.leavesShort]; exact h.leaf
 dep:=by rw [PyData.depth]; exact Nat.succ_le_succ h.dep
 bk:=by rw [PyData.bulk]; exact h.bk
theorem Nb.lst {k n:Nat} {ds:List PyData} (h:NbL k n ds):Nb (k+1) n (.list ds) where
 lay:=by rw [PyData.canLay0]; exact h.lay
 sho:=by rw [PyData.showable]; exact h.sho
 leaf:=by rw [PyData.leavesShort]; exact h.leaf
 dep:=by rw [PyData.depth]; exact Nat.succ_le_succ h.dep
 bk:=by rw [PyData.bulk]; exact h.bk
theorem Nb.none {k n:Nat}:Nb k n .none:=⟨rfl,rfl,rfl,Nat.zero_le _,Nat.zero_le _⟩
theorem Nb.bool {k n:Nat} {b:Bool}:Nb k n (.bool b):=⟨rfl,rfl,rfl,Nat.zero_le _,Nat.zero_le _⟩
theorem Nb.int {k n:Nat} {i:Int} (h:i.natAbs < 10 ^ 18):Nb k n (.int i):=have m:=Nice.int (k:=k) h; ⟨m.lay,m.sho,m.leaf,m.dep,Nat.zero_le _⟩
theorem Nb.str {k n:Nat} {x:Str} (h:PyData.strOk x=true) (hn:x.cps.size≤n):Nb k n (.str x):=have m:=Nice.str (k:=k) h hn; ⟨m.lay,m.sho,m.leaf,m.dep,by rw [PyData.bulk]; exact hn⟩
theorem Nb.fits {k n:Nat} {d:PyData} (h:Nb k n d) (hn:n≤500000):d.shown.length≤sizeLine:=by
 have:=PyData.shown_le_bulk 30 (by decide) d h.leaf
 have:=h.bk
 rw [sizeLine_eq]
 omega
theorem Nb.rp {k n:Nat} {d:PyData} (h:Nb k n d) (hk:k≤60) (hn:n≤500000):d.showable=true∧d.hasDict=false∧d.depth≤60∧d.shown.length≤16777216:=⟨h.sho,PyData.hasDict_of_canLay d h.lay,Nat.le_trans h.dep hk,by have:=h.fits hn; rw [sizeLine_eq] at this; exact this⟩
theorem Nb.shaped {k n:Nat} {d:PyData} (h:Nb k n d) (hk:k≤64):shaped d=true:=Bool.and_eq_true_iff.mpr ⟨h.lay,decide_eq_true (Nat.le_trans h.dep hk)⟩
theorem Z4y {K:W.Frag} {H:Hp} {α:Type} {R:V→α→Prop} {g:α→PyData} {k n:Nat}:∀ {vs:List V} {as:List α},Paired R vs as→(∀ v a,R v a→a∈as→RdD K H v (g a)∧Nb k n (g a))→RdDs K H vs (as.map g)∧NbL k ((n+1) * as.length) (as.map g)
 | _,_,.nil,_=>⟨.nil,.nil⟩
 | _,_,.cons r rs,h=>by
  obtain ⟨a,b⟩:=h _ _ r List.mem_cons_self
  obtain ⟨c,e⟩:=Z4y rs fun v x hx hm=>h v x hx (List.mem_cons_of_mem _ hm)
  exact ⟨.cons a c,NbL.cons b e (by rw [List.length_cons,Nat.mul_succ]; omega)⟩
end L2
end
section
namespace L2
open PySem PySem.Spec PyProof.Rows
section
variable {P:Program} {w:World} {B:Around} {R:Result→Shared→Prop} {it:Addr} {fp wr:List Addr} {n:Nat} {Y:Nat→Value→Prop} {St:Nat→Heap→Prop}
end
section
variable {P:Program} {w:World} {A:Around} {E:Value→Shared→Prop} {s:Shared}
end
section
variable {X:Cx}
theorem J1l {its:List Value} {ys:List Int} (rv:Vals (ys.map V.int) its):ys.length=its.length∧∀ (i:Nat) (v:Value),its[i]?=some v→∃ t,v=Value.int (ys.getD i 0) t:=by
 have hl:=rv.length
 rw [List.length_map] at hl
 refine ⟨hl,fun i v h=>?_⟩
 have hi:i < ys.length:=by rw [hl]; exact (List.getElem?_eq_some_iff.mp h).1
 obtain ⟨u,e,r⟩:=rv.get (i:=i) (x:=V.int ys[i]) (by rw [List.getElem?_map,List.getElem?_eq_getElem hi]; rfl)
 rw [h] at e
 cases e
 obtain ⟨t,rfl⟩:=(show ∃ t,_=Value.int ys[i] t from r)
 exact ⟨t,by rw [List.getD_eq_getElem?_getD,List.getElem?_eq_getElem hi]; rfl⟩
end
end L2
end
section
namespace L2
open PySem PySem.Spec PyProof.Rows
section
variable {P:Program} {w:World} {A:Around} {E:Value→Shared→Prop} {s:Shared}
def J3b (ys:List Int) (m:Int):Prop:=m∈ys∧∀ a∈ys,m≤a
theorem J0d {ys:List Int} (h:0 < ys.length):J3b ys (ys.getD (argBest (fun i j=>decide (ys.getD i 0 < ys.getD j 0)) (ys.length - 1)) 0):=by
 obtain ⟨a,b⟩:=argBest_lt (fun i=>ys.getD i 0) (ys.length - 1)
 refine ⟨?_,fun x hx=>?_⟩
 ·have lt:argBest (fun i j=>decide (ys.getD i 0 < ys.getD j 0)) (ys.length - 1) < ys.length:=by omega
  rw [List.getD_eq_getElem?_getD,List.getElem?_eq_getElem lt]
  exact List.getElem_mem lt
 ·obtain ⟨j,hj,e⟩:=List.getElem_of_mem hx
  have:=b j (by omega)
  have ex:ys.getD j 0=ys[j]:=by rw [List.getD_eq_getElem?_getD,List.getElem?_eq_getElem hj]; rfl
  rw [ex] at this
  rw [← e]; exact this
theorem Z7V {l it:Addr} {its:List Value} {ys:List Int} (hh:A.handled=none) (hl:ys.length=its.length) (hv:∀ (i:Nat) (v:Value),its[i]?=some v→∃ t,v=Value.int (ys.getD i 0) t) (hne:l≠it) :
  Walks P w A it [it,l] [it] its.toArray.size (fun i v=>its.toArray[i]?=some v) (fun i h=>h.IsListIter it l i∧h.IsList l its.toArray)∧CmpOf P w A .Lt (fun i v=>its.toArray[i]?=some v) (fun i j=>decide (ys.getD i 0 < ys.getD j 0)):=
 ⟨Walks.list hh it l hne its.toArray,CmpOf.ints_lt (fun i=>ys.getD i 0) fun i v h=>hv i v (by simpa using h)⟩
end
section
variable {X:Cx}
def J2t (K:W.Frag):List V→Hp→VK→Prop:=fun xs H Q=>∃ (p:Addr) (ys:List Int),xs=[.ref p]∧SqL K H p (ys.map V.int)∧ys≠[]∧∀ m,J3b ys m→Q (.int m) H
theorem J5t {K:W.Frag} {xs:List V} {H:Hp} {Q:VK}:J2t K xs H Q=∃ (p:Addr) (ys:List Int),xs=[.ref p]∧SqL K H p (ys.map V.int)∧ys≠[]∧∀ m,J3b ys m→Q (.int m) H:=rfl
theorem Z8B (hc:X.calm=true):Z4l X (.builtin "min") (J2t X.K):=by
 intro pins s σ H xs us Q I r h
 obtain ⟨p,ys,rfl,hq,hne,q⟩:=h
 obtain ⟨u,rfl,ru⟩:=r.one
 cases ru
 obtain ⟨its,rv,pl,hz⟩:=I.list hq
 obtain ⟨hl,hv⟩:=J1l rv
 obtain ⟨o,ho,_,_,_⟩:=id pl.isList
 have lt:p < s.heap.objs.size:=Heap.lt_size ho
 have hp:0 < ys.length:=List.length_pos_iff.mpr hne
 refine call_min_walk (wpAny_pyIter_list pl.isList ?_)
 obtain ⟨W,hcm⟩:=Z7V (P:=X.prog) (w:=X.w) (A:=X.A.in1) (it:=s.heap.objs.size) (l:=p) (its:=its) (ys:=ys) (show X.A.in1.handled=none from I.ok.hd hc) hl hv (Nat.ne_of_lt lt)
 refine ⟨s.heap.objs.size,_,_,_,_,_,_,rfl,W,⟨⟨_,Heap.get?_push_size _ rfl,rfl,rfl⟩,pl.isList.at fun o e=>Heap.get?_push_of_some _ e⟩,fun b hb=>?_,by rw [List.size_toArray,← hl]; exact hp,hcm,fun v h' tk hu k=>?_⟩
 ·show b < (s.heap.objs.push _).size
  rw [Array.size_push]
  rcases List.mem_cons.mp hb with e | e
  ·exact e▸Nat.lt_succ_self _
  ·rw [List.mem_singleton.mp e]; exact Nat.lt_succ_of_lt lt
 ·obtain ⟨t,rfl⟩:=hv (argBest (fun i j=>decide (ys.getD i 0 < ys.getD j 0)) (its.toArray.size - 1)) _ (by rw [← List.getElem?_toArray]; exact hu)
  refine ⟨.int _,H,I.kept fun b o e=>k b o (fun z=>?_) (Heap.get?_push_of_some _ e),⟨t,rfl⟩,q _ ?_⟩
  ·exact absurd (Heap.lt_size e) (by rw [List.mem_singleton.mp z]; exact Nat.lt_irrefl _)
  ·rw [List.size_toArray,← hl]; exact J0d hp
end
end L2
end
section
namespace Mach
theorem EnS.lw {P:Prog} {s s':MS} {f:AFr} {fs:List AFr} {b m:Nat} (e:EnS P s f fs b m s'):s'.calls≤s.calls+1∧s'.rows=s.rows:=by
 cases e with
 | dry=>exact ⟨Nat.le_succ _,rfl⟩
 | _=>exact ⟨Nat.le_refl _,rfl⟩
theorem step_cw {P:Prog} {s s':MS} (e:step P s=some s'):s'.calls≤s.calls+1∧s'.rows=s.rows+1:=by
 obtain ⟨f,fs,r,_,_,_,q⟩:=Z4J e
 clear e
 cases q with
 | call _ _ _ _ _ _ _ hb en=>
  obtain ⟨_,_,_,rfl,_⟩:=Z4e hb
  exact en.lw
 | strt _ _ _ en=>exact en.lw
 | _=>exact ⟨Nat.le_succ _,rfl⟩
end Mach
namespace MM
open PySem L2
open Mach (AV AFr Row Sg Blk MS PL Mem getP updM seen Z0K Bd)
noncomputable def frE (f:AFr):PyData:=.tuple [.int f.n,.int f.pc,.tuple (f.sl.map avD),.tuple (f.st.reverse.map avD)]
noncomputable def thE (t:Nat×List AV):PyData:=.tuple [.int t.1,.tuple (t.2.map avD)]
noncomputable def enE:Option Mach.End→PyData
 | none=>.none
 | some e=>endD e
noncomputable def Z9r (s:MS):PyData:=.list [.list (s.frames.reverse.map frE),.list (s.made.map thE),enE s.ended,.int s.calls,.int s.looks,.int s.hits,.int s.rows]
section
variable {K:W.Frag} {H H':Hp}
theorem Z2K {k n:Nat} {x:Str} (h:PyData.strOk x=true:=by decide +kernel) (hn:x.cps.size≤n:=by decide +kernel):Nb k n (.str x):=.str h hn
theorem AtV.nb {v:V} {a:AV} (h:AtV K H v a):RdD K H v (avD a)∧Nb 1 7 (avD a):=by
 refine ⟨(AtV.nice h).1,?_⟩
 cases a with
 | non=>exact .none
 | bl b=>exact .bool
 | int i=>obtain ⟨_,hb⟩:=h; exact .int (by unfold Mach.Bd at hb; omega)
 | th k=>
  obtain ⟨t,_,b,l⟩:=h
  exact Nb.tup (k:=0) (n:=7) (.cons (a:=5) (b:=1) Z2K (.cons (a:=0) (b:=0) (.int (by omega)) .nil (by decide)) (by decide))
theorem EndIs.nb {a:Addr} {e:Mach.End} (h:EndIs K H a e):RdD K H (.ref a) (endD e)∧Nb 2 20 (endD e):=by
 refine ⟨(EndIs.nice h).1,?_⟩
 cases e with
 | val v=>
  obtain ⟨y,p,q⟩:=h
  exact Nb.tup (k:=1) (n:=20) (.cons (a:=5) (b:=8) Z2K (.cons (a:=7) (b:=0) (AtV.nb q).2 .nil (by decide)) (by decide))
 | thing x=>exact (Nb.tup (k:=0) (n:=20) (.cons (a:=5) (b:=1) Z2K (.cons (a:=0) (b:=0) (.int (by have:=h.2; omega)) .nil (by decide)) (by decide))).mono (by decide) (Nat.le_refl _)
 | dry=>exact (Nb.tup (k:=0) (n:=20) (.cons (a:=8) (b:=0) Z2K .nil (by decide))).mono (by decide) (Nat.le_refl _)
 | deep=>exact (Nb.tup (k:=0) (n:=20) (.cons (a:=8) (b:=0) Z2K .nil (by decide))).mono (by decide) (Nat.le_refl _)
 | great=>exact (Nb.tup (k:=0) (n:=20) (.cons (a:=7) (b:=8) Z2K (.cons (a:=7) (b:=0) Z2K .nil (by decide)) (by decide))).mono (by decide) (Nat.le_refl _)
 | nought=>exact (Nb.tup (k:=0) (n:=20) (.cons (a:=7) (b:=8) Z2K (.cons (a:=7) (b:=0) Z2K .nil (by decide)) (by decide))).mono (by decide) (Nat.le_refl _)
theorem EndAt.nb {v:V} {e:Option Mach.End} (h:EndAt K H v e):RdD K H v (enE e)∧Nb 2 20 (enE e):=by
 cases e with
 | none=>cases h; exact ⟨.non,.none⟩
 | some e=>obtain ⟨a,rfl,q⟩:=h; exact q.nb
theorem Z8E {vs:List V} {as:List AV} (h:AtVs K H vs as):RdDs K H vs (as.map avD)∧NbL 1 (8 * as.length) (as.map avD):=Z4y h fun _ _ h _=>AtV.nb h
theorem FrV.nb {v:V} {f:AFr} {n:Nat} (h:FrV K H v f) (h1:f.n < 1000000) (h2:f.pc < 1000000) (h3:f.st.length≤60) (h4:f.sl.length < 900):RdD K H v (frE f)∧Nb 3 7700 (frE f):=by
 obtain ⟨a,rfl,h⟩:=h
 obtain ⟨F,sa,ta,p1,p2,p3,e1,e2,hs,hst,l1,l2⟩:=h.st
 obtain ⟨r1,n1⟩:=Z8E hs
 obtain ⟨r2,n2⟩:=Z8E hst
 rw [List.length_reverse] at n2
 refine ⟨.tup p1 (.cons (.int _) (.cons (.int _) (.cons (.tup p2 r1) (.cons (.tup p3 r2) .nil)))),Nb.tup (k:=2) (.cons (a:=0) (b:=7690) (.int (by omega)) (.cons (a:=0) (b:=7680) (.int (by omega)) (.cons (a:=7192) (b:=481) (Nb.tup (k:=1) (n1.mono (Nat.le_refl _) (by omega))) (.cons (a:=480) (b:=0) (Nb.tup (k:=1) (n2.mono (Nat.le_refl _) (by omega))) .nil (by decide)) (by decide)) (by decide)) (by decide))⟩
theorem ThV.nb {v:V} {t:Nat×List AV} (h:ThV K H v t) (hl:t.2.length≤60) (ht:t.1 < 1000):RdD K H v (thE t)∧Nb 3 490 (thE t):=by
 obtain ⟨e,ia,inner,rfl,h1,h2,h3⟩:=h
 obtain ⟨r1,n1⟩:=Z8E h3
 exact ⟨.tup h1 (.cons (.int _) (.cons (.tup h2 r1) .nil)),Nb.tup (k:=2) (.cons (a:=0) (b:=481) (.int (by omega)) (.cons (a:=480) (b:=0) (Nb.tup (k:=1) (n1.mono (Nat.le_refl _) (by omega))) .nil (by decide)) (by decide))⟩
end
structure MOn (CM CP:Addr) (K:W.Frag) (S:Addr→Prop) (o:MO) (P:Mach.Prog) (s:MS) (H:Hp):Prop where
 sub:∀ a,S a→H a≠none
 m:MAt CM CP K (fun a=>H a≠none∧¬ S a) o P s H
section
variable {CM CP:Addr} {K:W.Frag} {S:Addr→Prop} {o o':MO} {P:Mach.Prog} {s s':MS} {H H':Hp}
theorem MOn.own (M:MOn CM CP K S o P s H):S o.x∧S o.pl∧S o.pd∧S o.sk∧S o.md:=by
 obtain ⟨n1,n2,n3,n4,n5⟩:=M.m.nex
 have go:∀ {a:Addr} {u:HO},H a=some u→¬ (H a≠none∧¬ S a)→S a:=fun {a u} e n=>Classical.byContradiction fun z=>n ⟨(by rw [e]; exact fun y=>by cases y),z⟩
 obtain ⟨_,e1,_⟩:=M.m.ins
 obtain ⟨_,e3⟩:=M.m.pdk
 obtain ⟨_,e4,_⟩:=M.m.stk
 obtain ⟨_,e5,_⟩:=M.m.mad
 exact ⟨go e1 n1,go M.m.plc n2,go e3 n3,go e4 n4,go e5 n5⟩
theorem MOn.beside (M:MOn CM CP K S o P s H) (t:SameT H H') (k:∀ a,S a→H' a=H a):MOn CM CP K S o P s H':=by
 obtain ⟨w1,w2,w3,w4,w5⟩:=M.own
 have M1:=M.m
 refine ⟨fun a h=>by rw [k a h]; exact M.sub a h,{
  ins:=let ⟨v,a,b⟩:=M1.ins; ⟨v,by rw [k _ w1]; exact a,b.t t⟩
  pr:=M1.pr.t t
  plc:=by rw [k _ w2]; exact M1.plc
  rep:=?_
  stk:=let ⟨ss,a,b⟩:=M1.stk; ⟨ss,by rw [k _ w4]; exact a,Pd.imp (fun _ _ q=>FrV.t q t) b⟩
  mad:=let ⟨ms,a,b⟩:=M1.mad; ⟨ms,by rw [k _ w5]; exact a,Pd.imp (fun _ _ q=>ThV.t q t) b⟩
  nxp:=M1.nxp
  nsm:=M1.nsm
  nex:=⟨fun z=>z.2 w1,fun z=>z.2 w2,fun z=>z.2 w3,fun z=>z.2 w4,fun z=>z.2 w5⟩
  exs:=fun a z=>z.1 }⟩
 obtain ⟨kvs,a,b,c⟩:=M1.rep
 refine ⟨kvs,by rw [k _ w3]; exact a,b,fun j=>?_⟩
 have:=c j
 revert this
 cases s.mem j with
 | none=>exact id
 | some ps=>
  rintro ⟨l,h1,h2,rs,h3,h4⟩
  have sl:S l:=Classical.byContradiction fun z=>h2 (.inr (.inr ⟨(by rw [h3]; exact fun y=>by cases y),z⟩))
  refine ⟨l,h1,fun z=>?_,rs,by rw [k _ sl]; exact h3,Prs.mono (fun t' xs e=>(t t' xs).1 e) h4⟩
  rcases z with z | z | z
  ·exact h2 (.inl z)
  ·exact h2 (.inr (.inl z))
  ·exact z.2 sl
theorem MOn.wrote (M:MOn CM CP K S o P s H) (k:Keep (fun a=>H a≠none∧¬ S a) H H') (M':MAt CM CP K (fun a=>H a≠none∧¬ S a) o' P s' H'):MOn CM CP K (fun a=>H' a≠none∧(H a≠none→S a)) o' P s' H':=by
 refine ⟨fun a h=>h.1,?_⟩
 have e:(fun a=>H' a≠none∧¬ (H' a≠none∧(H a≠none→S a)))=fun a=>H a≠none∧¬ S a:=by
  funext a
  refine propext ⟨fun h=>?_,fun h=>⟨M'.exs a h,fun z=>h.2 (z.2 h.1)⟩⟩
  refine Classical.byContradiction fun z=>h.2 ⟨h.1,fun y=>Classical.byContradiction fun w=>z ⟨y,w⟩⟩
 rw [e]
 exact M'
end
theorem MOn.grow {CM CP:Addr} {K:W.Frag} {S:Addr→Prop} {o:MO} {P:Mach.Prog} {s:MS} {H H':Hp} (M:MOn CM CP K S o P s H) (e:Same H H'):MOn CM CP K S o P s H':=M.beside (Same.t e) fun a h=>by
 obtain ⟨u,hu⟩:=Option.ne_none_iff_exists'.mp (M.sub a h)
 rw [hu]; exact e _ _ hu
theorem MOn.stepd {CM CP:Addr} {K:W.Frag} {S:Addr→Prop} {o o':MO} {P:Mach.Prog} {s s':MS} {H0 H H':Hp} (M:MOn CM CP K S o P s H) (h0:∀ a,S a→H0 a=none) (s0:Same H0 H) (k:Keep (fun a=>H a≠none∧¬ S a) H H') (M':MAt CM CP K (fun a=>H a≠none∧¬ S a) o' P s' H'):∃ S',MOn CM CP K S' o' P s' H'∧(∀ a,S' a→H0 a=none)∧Same H0 H'∧(∀ a,H a≠none→S' a→S a):=by
 refine ⟨_,M.wrote k M',fun a h=>?_,fun a u e=>?_,fun a e h=>h.2 e⟩
 ·by_cases z:H a=none
  ·cases e:H0 a with
   | none=>rfl
   | some o=>rw [s0 _ _ e] at z; cases z
  ·exact h0 a (h.2 z)
 ·rw [k.k a ⟨(by rw [s0 _ _ e]; exact fun z=>by cases z),fun z=>by rw [h0 a z] at e; cases e⟩]
  exact s0 _ _ e
noncomputable def nxt (P:Mach.Prog) (s:MS):MS:=if s.ended=none then (Mach.step P s).getD s else s
noncomputable def tr (P:Mach.Prog) (s0:MS):Nat→MS
 | 0=>s0
 | k+1=>nxt P (tr P s0 k)
section
open MT
variable {W:Wo} {P:Mach.Prog} {ss:List Nat} {s0:MS}
theorem J1C (wk:WOk W P ss) {s:MS} (h:TyS W P ss s):TyS W P ss (nxt P s)∧(s.ended=none→Mach.step P s=some (nxt P s)):=by
 unfold nxt
 by_cases e:s.ended=none
 ·obtain ⟨s',h1,h2⟩:=J1U wk h e
  rw [if_pos e,h1]
  exact ⟨h2,fun _=>rfl⟩
 ·rw [if_neg e]
  exact ⟨h,fun z=>absurd z e⟩
theorem J1X (wk:WOk W P ss) (h0:TyS W P ss s0):∀ k,TyS W P ss (tr P s0 k)
 | 0=>h0
 | k+1=>(J1C wk (J1X wk h0 k)).1
theorem Z9E (wk:WOk W P ss) (h0:TyS W P ss s0) (k:Nat) (e:(tr P s0 k).ended=none):Mach.step P (tr P s0 k)=some (tr P s0 (k+1)):=(J1C wk (J1X wk h0 k)).2 e
structure Szz (k:Nat) (s:MS):Prop where
 z:Mach.Sz k s
 c:s.calls≤k
 r:s.rows≤k
theorem J4P (wk:WOk W P ss) (h0:TyS W P ss s0) (p:Mach.PSz P) (z0:Szz 0 s0):∀ k,Szz k (tr P s0 k)
 | 0=>z0
 | k+1=>by
  have ih:=J4P wk h0 p z0 k
  by_cases e:(tr P s0 k).ended=none
  ·have st:=Z9E wk h0 k e
   obtain ⟨c1,c2⟩:=Mach.step_cw st
   have:=ih.c
   have:=ih.r
   exact ⟨Mach.step_sz p ih.z st,by omega,by omega⟩
  ·have ee:tr P s0 (k+1)=tr P s0 k:=by show nxt P _=_; unfold nxt; rw [if_neg e]
   rw [ee]
   exact ⟨Mach.Sz.up (k:=(tr P s0 k).rows) ih.z,Nat.le_succ_of_le ih.c,Nat.le_succ_of_le ih.r⟩
theorem Sf.ne {told:Kd} {r:List Row} {sl:List (Option Kd)} {st:List Kd} (h:Sf W ss told r sl st):r≠[]:=by
 induction h with
 | wk _ ih=>exact ih
 | _=>exact fun z=>by cases z
theorem J3N {hs:List Nat} {fs:List AFr} {k:Kd} (h:Ctx W P ss hs fs k):∀ f∈fs,∃ B,P.blocks[f.n]?=some B∧f.pc < B.rows.length:=by
 induction h with
 | nil=>intro f hf; cases hf
 | @cons g gs k told B sl st h1 h2 _ _ _ ih=>
  intro f hf
  rcases List.mem_cons.mp hf with e | e
  ·rw [e]
   refine ⟨B,h1,Nat.lt_of_not_le fun z=>Sf.ne h2 (List.drop_eq_nil_of_le z)⟩
  ·exact ih f e
theorem J6x {s:MS} (h:TyS W P ss s):∀ f∈s.frames,∃ B,P.blocks[f.n]?=some B∧f.pc < B.rows.length:=by
 rcases h.fr with ⟨_,f,fs,B,told,sl,st,e,h1,h2,_,_,hc⟩ | ⟨_,e⟩
 ·rw [e]
  intro g hg
  rcases List.mem_cons.mp hg with z | z
  ·rw [z]
   exact ⟨B,h1,Nat.lt_of_not_le fun y=>Sf.ne h2 (List.drop_eq_nil_of_le y)⟩
  ·exact J3N hc g z
 ·rw [e]; intro f hf; cases hf
end
end MM
end
section
namespace L2
open PySem PySem.Spec PyProof.Rows
theorem Z6o {J:It} {g:TG} {te:TE} {Q:VK} {H:Hp} {D:Addr} {ys:List V} {σ0:St} (Sv:St→Prop) (R:Nat→V→Hp→Prop) (mono:∀ j v H1 H2,R j v H1→(∀ b o,b≠D→H1 b=some o→H2 b=some o)→R j v H2) (e0:Sv σ0) (hD:H D=none) (hz:ys.length≤sizeLine)
  (j1:∀ i H1,Same H H1→i < ys.length→J.go i H1) (j2:∀ i H1 x H2,Same H H1→J.yld i H1 x H2→H2=H1∧ys[i]?=some x) (j3:∀ H1,Same H H1→J.stop ys.length H1)
  (he:∀ i y σ,ys[i]?=some y→Sv σ→∀ H1 (K':St→VK),Same H H1→H1 D≠none→(∀ σ3 v H2,Sv σ3→Same H1 H2→R i v H2→K' σ3 v H2)→g y σ H1 fun σ3 H3=>te σ3 H3 (K' σ3))
  (hQ:∀ vs H',Same H H'→H' D=some (.lst vs)→vs.length=ys.length→(∀ j v,vs[j]?=some v→R j v H')→Q (.ref D) H'):Z3P J g Z3S te D Q σ0 (upd H D (.lst [])):=by
 refine ⟨fun i m σ' H'=>m=ys.length - i∧i≤ys.length∧Sv σ'∧Same H H'∧∃ vs,H' D=some (.lst vs)∧vs.length=i∧∀ j v,vs[j]?=some v→R j v H',⟨ys.length,by simp,Nat.zero_le _,e0,Z0i hD _,[],Z0e,rfl,fun j v h=>by simp at h⟩,?_⟩
 rintro i m σ' H' ⟨rfl,hi,hS,s1,vs,hv,hl,hr⟩
 by_cases hlt:i < ys.length
 ·refine .inr ⟨j1 i H' s1 hlt,fun σ2 H2=>Sv σ2∧Same H H2∧∃ vs,H2 D=some (.lst vs)∧vs.length=i+1∧∀ j v,vs[j]?=some v→R j v H2,fun σ2 H2 ⟨a,b,c⟩=>⟨ys.length - (i+1),by omega,rfl,hlt,a,b,c⟩,fun x H2 hx=>?_⟩
  obtain ⟨e1,e2⟩:=j2 i H' x H2 s1 hx
  subst e1
  unfold Z3S
  simp only [if_true]
  refine he i x σ' e2 hS H2 _ s1 (by rw [hv]; exact fun z=>by cases z) fun σ3 v H3 hS3 s3 hR=>?_
  have h3:=s3 _ _ hv
  have sn:∀ b o,b≠D→H3 b=some o→upd H3 D (.lst (vs++[v])) b=some o:=fun b o ho hb=>by
   rw [Z0h ho]
   exact hb
  refine ⟨vs,h3,by omega,hS3,fun b o hb=>?_,_,Z0e,by rw [List.length_append,hl]; rfl,fun j u hj=>?_⟩
  ·rw [Z0h (Z0t hb hD)]
   exact s3 _ _ (s1 _ _ hb)
  ·by_cases hj':j < vs.length
   ·rw [List.getElem?_append_left hj'] at hj
    exact mono j u _ _ (mono j u _ _ (hr j u hj) fun b o _ hb=>s3 b o hb) sn
   ·rw [List.getElem?_append_right (by omega)] at hj
    have ej:j - vs.length=0:=by
     have:=(List.getElem?_eq_some_iff.mp hj).1
     simp at this
     omega
    rw [ej] at hj
    cases hj
    have:j=i:=by omega
    subst this
    exact mono _ _ _ _ hR sn
 ·have e:i=ys.length:=by omega
  subst e
  exact .inl ⟨j3 _ s1,hQ vs H' s1 hv hl hr⟩
theorem Z6b {K:W.Frag} {a:Addr} {g:TG} {te:TE} {Q:VK} {H:Hp} {D:Addr} {ys:List V} {σ0:St} (Sv:St→Prop) (R:Nat→V→Hp→Prop) (mono:∀ j v H1 H2,R j v H1→(∀ b o,b≠D→H1 b=some o→H2 b=some o)→R j v H2) (e0:Sv σ0) (hD:H D=none) (hz:ys.length≤sizeLine) (ha:∀ H1,Same H H1→SqL K H1 a ys)
  (he:∀ i y σ,ys[i]?=some y→Sv σ→∀ H1 (K':St→VK),Same H H1→H1 D≠none→(∀ σ3 v H2,Sv σ3→Same H1 H2→R i v H2→K' σ3 v H2)→g y σ H1 fun σ3 H3=>te σ3 H3 (K' σ3))
  (hQ:∀ vs H',Same H H'→H' D=some (.lst vs)→vs.length=ys.length→(∀ j v,vs[j]?=some v→R j v H')→Q (.ref D) H'):Z3P (Itl K a) g Z3S te D Q σ0 (upd H D (.lst [])):=
 Z6o Sv R mono e0 hD hz (fun i H1 s h=>⟨ys,ys[i],ha H1 s,List.getElem?_eq_getElem h⟩) (fun i H1 x H2 s h=>⟨h.1,h.2 ys (ha H1 s)⟩) (fun H1 s=>⟨ys,ha H1 s,Nat.le_refl _⟩) he hQ
end L2
end
section
open PySem L2 MM
local macro_rules | `(tactic| walk_at "nx") => `(tactic| (refine ⟨rfl, ?_⟩; rw [if_neg (by decide)]))
local macro_rules | `(tactic| walk_at "rd") => do let f := fun (s : String) => (s.splitOn " ").toArray.mapM fun n => `(Lean.Parser.Tactic.simpLemma| $(Lean.mkIdent n.toName):term); let a ← f "J3F J6a J5A J4f J4K J4Z J5v J5e J6B J6o J4n J7q J7d J6e J6S J5R J5c J6G J5u J7a J5l J6h J5y J5X J5D J6D J4Y J6p J6y J6d J5r J5K J5f J5o J6O J6P J7h J6Y J7k J6U J6W J5k J5L J5n J5b J5E J6X J3k J5s J6Q J6T J6K J6N J3m J3i J6f J6i J5i J4T J5w J5x J2B J4B J5a J5G J4H J4X J3w J5M J6u J5W J6w List.getElem?_cons_zero List.getElem?_cons_succ List.set_cons_zero List.set_cons_succ Nat.reduceAdd Nat.reduceSub List.cons_append List.nil_append L2.Z4i List.map_cons List.map_nil List.length_cons List.length_nil List.replicate J6Z"; let b ← f "J3F J6a J5A J4f J4K J4Z J5v J5e J6B J6o J4n J5i J4T J5w J5x J2B J4B J5a J5G J4H J4X J3w J5M J6u J5W J6w J7q J7d J6e J6S J5R J5c J6G J5u J7a J5l J6h J5y J5X J5D J6D J4Y J6p J6y J6d J5r J5K J5f J5o J6O J6P J7h J6Y J7k J6U J6W J5k J5L J5n J5b J5E J6X J3k J5s J6Q J6T J6K J6N J3m J3i J6f J6i exists_eq_left' exists_eq_left exists_and_left exists_eq_right exists_eq_right' V.int.injEq V.str.injEq V.bl.injEq V.ref.injEq Option.some.injEq List.cons.injEq and_true true_and List.getElem?_cons_zero List.getElem?_cons_succ List.set_cons_zero List.set_cons_succ decide_eq_true_eq Bool.not_eq_true' decide_eq_false_iff_not reduceCtorEq J7j J7n J7e J7c J7s J7i J7m J7f J7r J7o J7p J7l J7b J7g L2.Z4i List.map_cons List.map_nil List.length_cons List.length_nil List.replicate List.cons_append List.nil_append List.append_nil Nat.reduceAdd Nat.reduceSub Nat.zero_add ix0 ix1 exists_const if_true if_false ite_true ite_false Bool.false_eq_true decide_true decide_false Bool.not_true Bool.not_false Bool.true_eq_false CPow CDiv CMul J6C or_true true_or and_self and_assoc sizeLine_eq Nat.reduceLeDiff Nat.reduceLT Nat.reducePow Nat.reduceMul Int.reducePow Int.reduceLE Int.reduceLT Int.reduceToNat Int.reduceAbs Int.reduceNeg Int.reduceAdd Int.reduceSub Int.reduceMul ne_eq not_false_eq_true not_true_eq_false J6Z Int.zero_add"; `(tactic| ((try dsimp only [$a,*]); (try simp (config := { maxSteps := 10000000 }) only [$b,*])))
local macro_rules | `(tactic| walk_at "rd") => do let f := fun (s : String) => (s.splitOn " ").toArray.mapM fun n => `(Lean.Parser.Tactic.simpLemma| $(Lean.mkIdent n.toName):term); let a ← f "J3F J6a J5A J4f J4K J4Z J5h J5v J5e J6B J6o J4n J3A J5C J6v J5H J6m J7q J7d J6e J6S J5R J5c J6G J5u J7a J5l J6h J4g J5j J5y J5X J5D J6D J4y J4Y J6p J5g J6A J6y J6d J6r J6s J5d J6V J5r J5K J5f J5o J6O J6P J7h J6Y J7k J6U J6W J5k J4J J6t J6n J6c J3l J5L J5n J5b J4W J5E J6X J3k J5s J6Q J5U J5m J6k J6g J6z J5F J6T J6K J6N J3m J3i J6f J3t J2l J4D J5Z J6i J5i J4T J5w J5x J2B J4B J5a J5G J4H J4X J3w J5M J6u J5W J6w List.getElem?_cons_zero List.getElem?_cons_succ List.set_cons_zero List.set_cons_succ Nat.reduceAdd Nat.reduceSub List.cons_append List.nil_append L2.Z4i List.map_cons List.map_nil List.length_cons List.length_nil List.replicate J6Z"; let b ← f "J3F J6a J5A J4f J4K J4Z J5h J5v J5e J6B J6o J4n J3A J5C J6v J5H J5B J5z J5p J5q J5i J4T J5w J5x J2B J4B J5a J5G J4H J4X J3w J5M J6u J5W J6w J6m J7q J7d J6e J6S J5R J5c J6G J5u J7a J5l J6h J4g J5j J5y J5X J5D J6D J4y J4Y J6p J5g J6A J6y J6d J6r J6s J5d J6V J5r J5K J5f J5o J6O J6P J7h J6Y J7k J6U J6W J5k J4J J6t J6n J6c J3l J5L J5n J5b J4W J5E J6X J3k J5s J6Q J5U J5m J6k J6g J6z J5F J6T J6K J6N J3m J3i J6f J3t J2l J4D J5Z J6i exists_eq_left' exists_eq_left exists_and_left exists_eq_right exists_eq_right' V.int.injEq V.str.injEq V.bl.injEq V.ref.injEq Option.some.injEq List.cons.injEq and_true true_and List.getElem?_cons_zero List.getElem?_cons_succ List.set_cons_zero List.set_cons_succ decide_eq_true_eq Bool.not_eq_true' decide_eq_false_iff_not reduceCtorEq J7j J7n J7e J7c J7s J7i J7m J7f J7r J7o J7p J7l J7b J7g L2.Z4i List.map_cons List.map_nil List.length_cons List.length_nil List.replicate List.cons_append List.nil_append List.append_nil Nat.reduceAdd Nat.reduceSub Nat.zero_add J2K J1v J3j J2o J2A ix0 ix1 exists_const if_true if_false ite_true ite_false Bool.false_eq_true decide_true decide_false Bool.not_true Bool.not_false Bool.true_eq_false CPow CDiv CMul J6C or_true true_or and_self and_assoc sizeLine_eq Nat.reduceLeDiff Nat.reduceLT Nat.reducePow Nat.reduceMul Int.reducePow Int.reduceLE Int.reduceLT Int.reduceToNat Int.reduceAbs Int.reduceNeg Int.reduceAdd Int.reduceSub Int.reduceMul ne_eq not_false_eq_true not_true_eq_false J6Z Int.zero_add"; `(tactic| ((try dsimp only [$a,*]); (try simp (config := { maxSteps := 10000000 }) only [$b,*])))
local macro_rules | `(tactic| walk_at "rd") => do let f := fun (s : String) => (s.splitOn " ").toArray.mapM fun n => `(Lean.Parser.Tactic.simpLemma| $(Lean.mkIdent n.toName):term); let a ← f "J3F J6a J5A J4f J4K J4Z J5h J5v J5e J6B J6o J4n J3A J5C J6v J5H J5t J6m J7q J7d J6e J6S J5R J5c J6G J5u J7a J5l J6h J4g J5j J5y J5X J5D J6D J4y J4Y J6p J5g J6A J6y J6d J6r J6s J5d J6V J5r J5K J5f J5o J6O J6P J7h J6Y J7k J6U J6W J5k J4J J6t J6n J6c J3l J5L J5n J5b J4W J5E J6X J3k J5s J6Q J5U J5m J6k J6g J6z J5F J6T J6K J6N J3m J3i J6f J3t J2l J4D J5Z J6i J5i J4T J5w J5x J2B J4B J5a J5G J4H J4X J3w J5M J6u J5W J6w List.getElem?_cons_zero List.getElem?_cons_succ List.set_cons_zero List.set_cons_succ Nat.reduceAdd Nat.reduceSub List.cons_append List.nil_append L2.Z4i List.map_cons List.map_nil List.length_cons List.length_nil List.replicate J6Z"; let b ← f "J3F J6a J5A J4f J4K J4Z J5h J5v J5e J6B J6o J4n J3A J5C J6v J5H J5B J5z J5p J5q J5t J5i J4T J5w J5x J2B J4B J5a J5G J4H J4X J3w J5M J6u J5W J6w J6m J7q J7d J6e J6S J5R J5c J6G J5u J7a J5l J6h J4g J5j J5y J5X J5D J6D J4y J4Y J6p J5g J6A J6y J6d J6r J6s J5d J6V J5r J5K J5f J5o J6O J6P J7h J6Y J7k J6U J6W J5k J4J J6t J6n J6c J3l J5L J5n J5b J4W J5E J6X J3k J5s J6Q J5U J5m J6k J6g J6z J5F J6T J6K J6N J3m J3i J6f J3t J2l J4D J5Z J6i exists_eq_left' exists_eq_left exists_and_left exists_eq_right exists_eq_right' V.int.injEq V.str.injEq V.bl.injEq V.ref.injEq Option.some.injEq List.cons.injEq and_true true_and List.getElem?_cons_zero List.getElem?_cons_succ List.set_cons_zero List.set_cons_succ decide_eq_true_eq Bool.not_eq_true' decide_eq_false_iff_not reduceCtorEq J7j J7n J7e J7c J7s J7i J7m J7f J7r J7o J7p J7l J7b J7g L2.Z4i List.map_cons List.map_nil List.length_cons List.length_nil List.replicate List.cons_append List.nil_append List.append_nil Nat.reduceAdd Nat.reduceSub Nat.zero_add J2K J1v J3j J2o J2A ix0 ix1 exists_const if_true if_false ite_true ite_false Bool.false_eq_true decide_true decide_false Bool.not_true Bool.not_false Bool.true_eq_false CPow CDiv CMul J6C or_true true_or and_self and_assoc sizeLine_eq Nat.reduceLeDiff Nat.reduceLT Nat.reducePow Nat.reduceMul Int.reducePow Int.reduceLE Int.reduceLT Int.reduceToNat Int.reduceAbs Int.reduceNeg Int.reduceAdd Int.reduceSub Int.reduceMul ne_eq not_false_eq_true not_true_eq_false J6Z Int.zero_add"; `(tactic| ((try dsimp only [$a,*]); (try simp (config := { maxSteps := 10000000 }) only [$b,*])))
section
namespace K65
open PySem L2 MM
open Mach (AV AFr Row Sg Blk MS PL Mem getP updM seen Z0K Bd)
seal L2.PE L2.PA L2.PT L2.PS L2.PSs L2.PG L2.PGs L2.PI L2.PW
theorem Z6r:Z0s ["sign","a","b"] ["sign","a","b"] (Z0j Z3a):=⟨rfl,rfl,rfl,by decide +kernel,rfl,by decide +kernel,by decide +kernel⟩
theorem Z4G:Z0s ["sign","a","b"] ["sign","a","b"] (Z0j Z2c):=⟨rfl,rfl,rfl,by decide +kernel,rfl,by decide +kernel,by decide +kernel⟩
theorem Z7H:Z0s ["number"] ["number"] (Z0j Z3z):=⟨rfl,rfl,rfl,by decide +kernel,rfl,by decide +kernel,by decide +kernel⟩
theorem sc_entered:Z0s ["block","number","values","bound"] ["block","number","values"] (Z0j Z3u):=⟨rfl,rfl,rfl,by decide +kernel,rfl,by decide +kernel,by decide +kernel⟩
theorem sc_own_done:Z0s ["row","frame","things","number","at","slots","stack","name","kept","over"] ["row","frame","things"] (Z0j Z2W):=⟨rfl,rfl,rfl,by decide +kernel,rfl,by decide +kernel,by decide +kernel⟩
theorem sc_two_done:Z0s ["sign","frame","stack","told"] ["sign","frame"] (Z0j Z2T):=⟨rfl,rfl,rfl,by decide +kernel,rfl,by decide +kernel,by decide +kernel⟩
theorem sc_behind:Z0s ["frame","many","value","number","at","slots","stack"] ["frame","many","value"] (Z0j Z3U):=⟨rfl,rfl,rfl,by decide +kernel,rfl,by decide +kernel,by decide +kernel⟩
theorem sc_field_value:Z0s ["things","thing","place","house","inner"] ["things","thing","place"] (Z0j Z2b):=⟨rfl,rfl,rfl,by decide +kernel,rfl,by decide +kernel,by decide +kernel⟩
theorem sc_uppermost:Z0s ["frame","many","stack"] ["frame","many"] (Z0j Z2H):=⟨rfl,rfl,rfl,by decide +kernel,rfl,by decide +kernel,by decide +kernel⟩
theorem Z4m:Z0s ["_law_script","_law_k"] ["_law_script","_law_k"] (Z0j Z1R):=⟨rfl,rfl,rfl,by decide +kernel,rfl,by decide +kernel,by decide +kernel⟩
theorem sc__law_mixed:Z0s ["_law_cell","_law_k","_law_number_here"] ["_law_cell","_law_k"] (Z0j Z2n):=⟨rfl,rfl,rfl,by decide +kernel,rfl,by decide +kernel,by decide +kernel⟩
theorem Z4D:Z0s ["_law_cell"] ["_law_cell"] (Z0j Z2e):=⟨rfl,rfl,rfl,by decide +kernel,rfl,by decide +kernel,by decide +kernel⟩
theorem sc__law_made:Z0s ["_law_world_here","_law_house","_law_cell","_law_rows","_law_k"] ["_law_world_here","_law_house","_law_cell"] (Z0j Z2G):=⟨rfl,rfl,rfl,by decide +kernel,rfl,by decide +kernel,by decide +kernel⟩
theorem sc__law_push:Z0s ["_law_world_here","_law_state","_law_kind","_law_cell","_law_known"] ["_law_world_here","_law_state","_law_kind","_law_cell"] (Z0j Z2E):=⟨rfl,rfl,rfl,by decide +kernel,rfl,by decide +kernel,by decide +kernel⟩
theorem sc__law_want:Z0s ["_law_world_here","_law_state","_law_kinds","_law_cell","_law_size","_law_rest","_law_k"] ["_law_world_here","_law_state","_law_kinds","_law_cell"] (Z0j Z2I):=⟨rfl,rfl,rfl,by decide +kernel,rfl,by decide +kernel,by decide +kernel⟩
theorem sc__law_branch:Z0s ["_law_world_here","_law_state","_law_more","_law_kind","_law_one","_law_other"] ["_law_world_here","_law_state","_law_more"] (Z0j Z2f):=⟨rfl,rfl,rfl,by decide +kernel,rfl,by decide +kernel,by decide +kernel⟩
theorem sc__law_slotted:Z0s ["_law_state","_law_more","_law_many","_law_known","_law_slot"] ["_law_state","_law_more"] (Z0j Z1V):=⟨rfl,rfl,rfl,by decide +kernel,rfl,by decide +kernel,by decide +kernel⟩
theorem sc__law_calling:Z0s ["_law_world_here","_law_state","_law_more","_law_is_straight","_law_block_here","_law_word","_law_params","_law_told"] ["_law_world_here","_law_state","_law_more"] (Z0j Z1T):=⟨rfl,rfl,rfl,by decide +kernel,rfl,by decide +kernel,by decide +kernel⟩
theorem sc__law_inner_thing:Z0s ["_law_world_here","_law_state","_law_more","_law_full","_law_house"] ["_law_world_here","_law_state","_law_more"] (Z0j Z1j):=⟨rfl,rfl,rfl,by decide +kernel,rfl,by decide +kernel,by decide +kernel⟩
theorem sc__law_about_thing:Z0s ["_law_world_here","_law_state","_law_more","_law_place"] ["_law_world_here","_law_state","_law_more"] (Z0j Z1k):=⟨rfl,rfl,rfl,by decide +kernel,rfl,by decide +kernel,by decide +kernel⟩
theorem sc__law_piece:Z0s ["_law_world_here","_law_state","_law_cell","_law_way","_law_more"] ["_law_world_here","_law_state","_law_cell"] (Z0j Z2q):=⟨rfl,rfl,rfl,by decide +kernel,rfl,by decide +kernel,by decide +kernel⟩
theorem sc__law_block:Z0s ["_law_world_here","_law_params","_law_told","_law_cell","_law_many","_law_state","_law_k"] ["_law_world_here","_law_params","_law_told","_law_cell","_law_many"] (Z0j Z2s):=⟨rfl,rfl,rfl,by decide +kernel,rfl,by decide +kernel,by decide +kernel⟩
theorem sc__law_world:Z0s ["_law_script","_law_one","_law_world_here","_law_word","_law_more","_law_house","_law_row","_law_mine","_law_b","_law_params","_law_told","_law_cell","_law_main"] ["_law_script"] (Z0j Z2v):=⟨rfl,rfl,rfl,by decide +kernel,rfl,by decide +kernel,by decide +kernel⟩
theorem Z5a:Z0s ["_law_machine","_law_k"] ["_law_machine","_law_k"] (Z0j Z2o):=⟨rfl,rfl,rfl,by decide +kernel,rfl,by decide +kernel,by decide +kernel⟩
theorem sc__law_seen:Z0s ["_law_machine","_law_bits","_law_found","_law_turn","_law_k"] ["_law_machine","_law_bits"] (Z0j Z2F):=⟨rfl,rfl,rfl,by decide +kernel,rfl,by decide +kernel,by decide +kernel⟩
theorem Z3N:Z0s ["_law_world_here","_law_cell","_law_numbers"] ["_law_world_here","_law_cell","_law_numbers"] (Z0j Z1G):=⟨rfl,rfl,rfl,by decide +kernel,rfl,by decide +kernel,by decide +kernel⟩
theorem sc__law_alone:Z0s ["_law_world_here","_law_cell","_law_numbers","_law_machine","_law_told"] ["_law_world_here","_law_cell","_law_numbers"] (Z0j Z2w):=⟨rfl,rfl,rfl,by decide +kernel,rfl,by decide +kernel,by decide +kernel⟩
theorem sc__law_right:Z0s ["_law_pair","_law_bits","_law_held","_law_found","_law_row"] ["_law_pair","_law_bits","_law_held"] (Z0j Z2m):=⟨rfl,rfl,rfl,by decide +kernel,rfl,by decide +kernel,by decide +kernel⟩
theorem Z4t:Z0s ["_law_pair"] ["_law_pair"] (Z0j Z1S):=⟨rfl,rfl,rfl,by decide +kernel,rfl,by decide +kernel,by decide +kernel⟩
theorem sc_law:Z0s ["_law_script","_law_world_here","_law_kept","_law_cell","_law_others","_law_cells","_law_alone_here","_law_pairs","_law_held","_law_k","_law_one","_law_numbers","_law_bits","_law_pair"] ["_law_script"] (Z0j J0b):=⟨rfl,rfl,rfl,by decide +kernel,rfl,by decide +kernel,by decide +kernel⟩
theorem Z3w:Z0s ["self"] ["self"] (Z0j Z1o):=⟨rfl,rfl,rfl,by decide +kernel,rfl,by decide +kernel,by decide +kernel⟩
theorem sc_Places_asked:Z0s ["self","site","house","pairs","found"] ["self","site","house"] (Z0j Z1W):=⟨rfl,rfl,rfl,by decide +kernel,rfl,by decide +kernel,by decide +kernel⟩
theorem Z5r:Z0s ["self","site","house","block"] ["self","site","house","block"] (Z0j Z2p):=⟨rfl,rfl,rfl,by decide +kernel,rfl,by decide +kernel,by decide +kernel⟩
theorem Z4F:Z0s ["self","site"] ["self","site"] (Z0j Z2g):=⟨rfl,rfl,rfl,by decide +kernel,rfl,by decide +kernel,by decide +kernel⟩
theorem Z3n:Z0s ["self","blocks","tables","numbers","most","remembers"] ["self","blocks","tables","numbers","most","remembers"] (Z0j Z0J):=⟨rfl,rfl,rfl,by decide +kernel,rfl,by decide +kernel,by decide +kernel⟩
theorem Z3H:Z0s ["self"] ["self"] (Z0j Z1u):=⟨rfl,rfl,rfl,by decide +kernel,rfl,by decide +kernel,by decide +kernel⟩
theorem Z3C:Z0s ["self"] ["self"] (Z0j Z1v):=⟨rfl,rfl,rfl,by decide +kernel,rfl,by decide +kernel,by decide +kernel⟩
theorem Z3E:Z0s ["self"] ["self"] (Z0j Z1t):=⟨rfl,rfl,rfl,by decide +kernel,rfl,by decide +kernel,by decide +kernel⟩
theorem Z3R:Z0s ["self"] ["self"] (Z0j Z1H):=⟨rfl,rfl,rfl,by decide +kernel,rfl,by decide +kernel,by decide +kernel⟩
theorem Z3O:Z0s ["self"] ["self"] (Z0j Z1C):=⟨rfl,rfl,rfl,by decide +kernel,rfl,by decide +kernel,by decide +kernel⟩
theorem Z4r:Z0s ["self"] ["self"] (Z0j Z1Q):=⟨rfl,rfl,rfl,by decide +kernel,rfl,by decide +kernel,by decide +kernel⟩
theorem Z3c:Z0s ["self"] ["self"] (Z0j Z1f):=⟨rfl,rfl,rfl,by decide +kernel,rfl,by decide +kernel,by decide +kernel⟩
theorem sc_Machine_step:Z0s ["self","frame","row"] ["self"] (Z0j Z1P):=⟨rfl,rfl,rfl,by decide +kernel,rfl,by decide +kernel,by decide +kernel⟩
theorem sc_Machine_do_own:Z0s ["self","row","frame","done","refusal"] ["self","row","frame"] (Z0j Z1s):=⟨rfl,rfl,rfl,by decide +kernel,rfl,by decide +kernel,by decide +kernel⟩
theorem Z4b:Z0s ["self","house","many","frame"] ["self","house","many","frame"] (Z0j Z1U):=⟨rfl,rfl,rfl,by decide +kernel,rfl,by decide +kernel,by decide +kernel⟩
theorem sc_Machine_set_field:Z0s ["self","place","frame","thing","value","house","inner"] ["self","place","frame"] (Z0j Z1e):=⟨rfl,rfl,rfl,by decide +kernel,rfl,by decide +kernel,by decide +kernel⟩
theorem sc_Machine_found_block:Z0s ["self","site","word","many","frame","house","known","block"] ["self","site","word","many","frame"] (Z0j Z0W):=⟨rfl,rfl,rfl,by decide +kernel,rfl,by decide +kernel,by decide +kernel⟩
theorem sc_Machine_enter:Z0s ["self","block","many","frame","number","at","slots","stack"] ["self","block","many","frame"] (Z0j Z1L):=⟨rfl,rfl,rfl,by decide +kernel,rfl,by decide +kernel,by decide +kernel⟩
theorem sc_Machine_go_back:Z0s ["self","frame","value","number","at","slots","stack"] ["self","frame"] (Z0j Z1m):=⟨rfl,rfl,rfl,by decide +kernel,rfl,by decide +kernel,by decide +kernel⟩
theorem Z2M:Z0s ["self","value"] ["self","value"] (Z0j Z0X):=⟨rfl,rfl,rfl,by decide +kernel,rfl,by decide +kernel,by decide +kernel⟩
theorem Z4E:Z0s ["self","told"] ["self","told"] (Z0j Z2i):=⟨rfl,rfl,rfl,by decide +kernel,rfl,by decide +kernel,by decide +kernel⟩
noncomputable def Z2t:List (Key×V):=[(.inr "add",.str "+"),(.inr "sub",.str "-"),(.inr "mul",.str "*"),(.inr "div",.str "/"),(.inr "less",.str "<"),(.inr "same",.str "=")]
structure Txt (P:Program) (w:World) (K:W.Frag) (mg:Str→Option Value) (C_Places:Addr) (C_Machine:Addr) (D_ROW_SIGNS:Addr):Prop where
 z_abs:mg "abs"=none
 z_isinstance:mg "isinstance"=none
 z_len:mg "len"=none
 z_list:mg "list"=none
 z_max:mg "max"=none
 z_min:mg "min"=none
 z_range:mg "range"=none
 z_repr:mg "repr"=none
 z_tuple:mg "tuple"=none
 c_GREATEST:Cst mg "GREATEST" (.int 1000000000000000)
 c_MOST_PAIRS:Cst mg "MOST_PAIRS" (.int 2)
 c_MOST_WITHIN:Cst mg "MOST_WITHIN" (.int 40)
 c_ROW_SIGNS:Cst mg "ROW_SIGNS" (.ref D_ROW_SIGNS)
 d_ROW_SIGNS:J0t P w K D_ROW_SIGNS Z2t
 f_two_told:Fn K mg "two_told" Z3a
 f_number_told:Fn K mg "number_told" Z2c
 f_bounded:Fn K mg "bounded" Z3z
 f_entered:Fn K mg "entered" Z3u
 f_own_done:Fn K mg "own_done" Z2W
 f_two_done:Fn K mg "two_done" Z2T
 f_behind:Fn K mg "behind" Z3U
 f_field_value:Fn K mg "field_value" Z2b
 f_uppermost:Fn K mg "uppermost" Z2H
 f__law_cell_at:Fn K mg "_law_cell_at" Z1R
 f__law_mixed:Fn K mg "_law_mixed" Z2n
 f__law_number:Fn K mg "_law_number" Z2e
 f__law_made:Fn K mg "_law_made" Z2G
 f__law_push:Fn K mg "_law_push" Z2E
 f__law_want:Fn K mg "_law_want" Z2I
 f__law_branch:Fn K mg "_law_branch" Z2f
 f__law_slotted:Fn K mg "_law_slotted" Z1V
 f__law_calling:Fn K mg "_law_calling" Z1T
 f__law_inner_thing:Fn K mg "_law_inner_thing" Z1j
 f__law_about_thing:Fn K mg "_law_about_thing" Z1k
 f__law_piece:Fn K mg "_law_piece" Z2q
 f__law_block:Fn K mg "_law_block" Z2s
 f__law_world:Fn K mg "_law_world" Z2v
 f__law_asked:Fn K mg "_law_asked" Z2o
 f__law_seen:Fn K mg "_law_seen" Z2F
 f__law_made_one:Fn K mg "_law_made_one" Z1G
 f__law_alone:Fn K mg "_law_alone" Z2w
 f__law_right:Fn K mg "_law_right" Z2m
 f__law_gone_on:Fn K mg "_law_gone_on" Z1S
 f_law:Fn K mg "law" J0b
 Places:Z8J K mg "Places" C_Places
 n_Places_by_site:NoAttr K C_Places "by_site"
 Machine:Z8J K mg "Machine" C_Machine
 n_Machine_blocks:NoAttr K C_Machine "blocks"
 n_Machine_call_count:NoAttr K C_Machine "call_count"
 n_Machine_ended:NoAttr K C_Machine "ended"
 n_Machine_hit_count:NoAttr K C_Machine "hit_count"
 n_Machine_house_tables:NoAttr K C_Machine "house_tables"
 n_Machine_look_count:NoAttr K C_Machine "look_count"
 n_Machine_made:NoAttr K C_Machine "made"
 n_Machine_most:NoAttr K C_Machine "most"
 n_Machine_places:NoAttr K C_Machine "places"
 n_Machine_remembers:NoAttr K C_Machine "remembers"
 n_Machine_row_count:NoAttr K C_Machine "row_count"
 n_Machine_stacked:NoAttr K C_Machine "stacked"
 m_Places___init__:MFn K C_Places "__init__" "Places.__init__" Z1o
 m_Places_asked:MFn K C_Places "asked" "Places.asked" Z1W
 m_Places_put:MFn K C_Places "put" "Places.put" Z2p
 m_Places_told:MFn K C_Places "told" "Places.told" Z2g
 m_Machine___init__:MFnD K C_Machine "__init__" "Machine.__init__" Z0J (.int 100) (.bl true)
 m_Machine_frames:MFn K C_Machine "frames" "Machine.frames" Z1u
 m_Machine_things:MFn K C_Machine "things" "Machine.things" Z1v
 m_Machine_answer:MFn K C_Machine "answer" "Machine.answer" Z1t
 m_Machine_calls:MFn K C_Machine "calls" "Machine.calls" Z1H
 m_Machine_looks:MFn K C_Machine "looks" "Machine.looks" Z1C
 m_Machine_hits:MFn K C_Machine "hits" "Machine.hits" Z1Q
 m_Machine_rows_done:MFn K C_Machine "rows_done" "Machine.rows_done" Z1f
 m_Machine_step:MFn K C_Machine "step" "Machine.step" Z1P
 m_Machine_do_own:MFn K C_Machine "do_own" "Machine.do_own" Z1s
 m_Machine_make:MFn K C_Machine "make" "Machine.make" Z1U
 m_Machine_set_field:MFn K C_Machine "set_field" "Machine.set_field" Z1e
 m_Machine_found_block:MFn K C_Machine "found_block" "Machine.found_block" Z0W
 m_Machine_enter:MFn K C_Machine "enter" "Machine.enter" Z1L
 m_Machine_go_back:MFn K C_Machine "go_back" "Machine.go_back" Z1m
 m_Machine_told_answer:MFn K C_Machine "told_answer" "Machine.told_answer" Z0X
 m_Machine_end:MFn K C_Machine "end" "Machine.end" Z2i
inductive J1D (K:W.Frag) (vs:List V) (H:Hp) (Q:VK):Prop
 | mk (r a tl:Addr) (nm:Str) (args:List V) (F:Fr) (a1:vs=[.ref r,.ref a,.ref tl]) (a2:SqT K H r (.str nm::args)) (a3:FrAt K H a F) (a4:F.st.length < 100000) (a5:F.sl.length < 100000) (a6:((∃ sg st x y rr,valV Z2t (.inr nm)=some (.str sg)∧F.st=st++[x,y]∧TwoR K H sg x y rr∧(∀ why p q' H',rr=[.str "refused",.str why]→Same H H'→SqT K H' q' rr→SqT K H' p [.ref a,.ref q']→Q (.ref p) H')∧∀ v p f' H',rr=[.str "value",v]→Same H H'→FrAt K H' f' ⟨F.n,F.at_+1,F.sl,st++[v]⟩→SqT K H' p [.ref f',.non]→Q (.ref p) H')∨∃ F',OwnR K H tl F nm args F'∧∀ p f' H',Same H H'→FrAt K H' f' F'→SqT K H' p [.ref f',.non]→Q (.ref p) H')):J1D K vs H Q
def Z4L (K:W.Frag):Sp:=fun vs H Q _=>J1D K vs H Q
inductive Z6Y (C:Addr) (vs:List V) (H:Hp) (Q:VK):Prop
 | mk (x:_) (dx:_) (a1:vs=[.ref x]) (a2:H x=some (.ins C dx [])) (a3:∀ d,H d=none→Q .non (upd (upd H d (.dK [])) x (.ins C dx [("by_site",.ref d)]))):Z6Y C vs H Q
def Z7f (C:Addr):Sp:=fun vs H Q _=>Z6Y C vs H Q
inductive Z9R (C:Addr) (vs:List V) (H:Hp) (Q:VK):Prop
 | mk (x dx d:Addr) (site:Int) (hd:Addr→Prop) (n:Nat) (m:Mem) (a1:vs=[.ref x,.int site]) (a2:H x=some (.ins C dx [("by_site",.ref d)])) (a3:Rep hd H d n m) (a4:∀ l H',H l=none→Same H H'→SqP H' l (getP m site)→Q (.ref l) H'):Z9R C vs H Q
def Z6A (C:Addr):Sp:=fun vs H Q _=>Z9R C vs H Q
inductive Z7d (C:Addr) (vs:List V) (H:Hp) (Q:VK):Prop
 | mk (x dx d:Addr) (site house:Int) (hd:Addr→Prop) (n:Nat) (m:Mem) (a1:vs=[.ref x,.int site,.int house]) (a2:H x=some (.ins C dx [("by_site",.ref d)])) (a3:Rep hd H d n m) (a4:(∀ a,hd a→H a≠none)) (a5:n < 100000) (a6:(getP m site).length≤2) (a7:(seen (getP m site) house=[]→∀ H',Same H H'→Q .non H')) (a8:∀ p r,seen (getP m site) house=p::r→∀ H',SameX d H H'→Rep hd H' d (n+1) (updM m site (seen (getP m site) house++Z0K (getP m site) house))→Q (.int p.2) H'):Z7d C vs H Q
def Z7i (C:Addr):Sp:=fun vs H Q _=>Z7d C vs H Q
inductive J1A (C:Addr) (vs:List V) (H:Hp) (Q:VK):Prop
 | mk (x dx d:Addr) (site house block:Int) (hd:Addr→Prop) (n:Nat) (m:Mem) (a1:vs=[.ref x,.int site,.int house,.int block]) (a2:H x=some (.ins C dx [("by_site",.ref d)])) (a3:Rep hd H d n m) (a4:(∀ a,hd a→H a≠none)) (a5:n < 100000) (a6:(getP m site).length≤2) (a7:∀ H',SameX d H H'→Rep hd H' d (n+1) (updM m site (((house,block)::getP m site).take 2))→Q .non H'):J1A C vs H Q
def J1o (C:Addr):Sp:=fun vs H Q _=>J1A C vs H Q
section
variable {C_Places C_Machine D_ROW_SIGNS:Addr} {P:Program} {w:World} {K:W.Frag} {mg:Str→Option Value} {base:Heap}
theorem Z9e (T:Txt P w K mg C_Places C_Machine D_ROW_SIGNS):Has P w K mg base 1 "behind" ["frame","many","value"] (Z2N K):=by
 refine Has.of T.f_behind sc_behind (fun _ _ _ _ _ _ us hl=>el3 us hl fun _ _ _=>rfl) (fun vs H Q E h=>?_) (fun f cdv A outer s H vs Q E hr h=>?_)
 ·obtain ⟨a,m,v,F,rfl,_⟩:=h
  rfl
 obtain ⟨a,m,v,F,rfl,hF,hm,hl,q⟩:=h
 refine ⟨_,(Z0d (Z1x (pvF 0) (Z1Z (n:=4) rfl (Z0B (Z0v (i:=3) sc_behind.nd rfl (Or.inl rfl)) (Z0B (Z0v (i:=4) sc_behind.nd rfl (Or.inl rfl)) (Z0B (Z0v (i:=5) sc_behind.nd rfl (Or.inl rfl)) (Z0B (Z0v (i:=6) sc_behind.nd rfl (Or.inl rfl)) Z1Y))))))
  (Z0f (Z0y (Z0A (Z0a (pvF 3) (Z0a (Z0k Z0N (pvF 4) Z0c) (Z0a (pvF 5) (Z0a (Z0k (r:=Z5A K) Z3o (Z1i (r:=rSlA K) Z2y (pvF 6) Z1D (Z1I (Z0k Z2r (Z0q Z0l rfl T.z_len Z0O (Z0a (pvF 6) Z0b)) (pvF 1)))) (Z0A (Z0a (pvF 2) Z0b))) Z0b)))))))),?_⟩
 walk_at "rd"
 obtain ⟨sa,ta,h1,h2,h3⟩:=hF
 refine ⟨_,h1,rfl,_,_,rfl,_,_,rfl,_,_,rfl,_,_,rfl,rfl,_,rfl,ta,rfl,_,.inr h3,ta,_,rfl,h3,fun p1 H1 s1 hp1=>?_⟩
 intro u hu
 have s2:=Z0i hu (.tup [v])
 rw [show ((F.st.length:Int) - (m:Int))=((F.st.length - m:Nat):Int) by omega,Z7B] at hp1
 refine ⟨p1,u,_,_,rfl,rfl,hp1.same s2,SqT.of Z0e,by rw [List.length_take,sizeLine_eq]; show _+1≤_; omega,fun p2 H2 s3 hp2=>?_⟩
 intro y hy
 have s4:=Z0i hy (.tup [F.n,.int (F.at_+1),.ref sa,.ref p2])
 have S:=(s1.trans s2).trans (s3.trans s4)
 exact q y _ S ⟨sa,p2,SqT.of Z0e,h2.same S,hp2.same s4⟩
theorem Z7O (T:Txt P w K mg C_Places C_Machine D_ROW_SIGNS):Has P w K mg base 1 "bounded" ["number"] Z4K:=by
 refine Has.of T.f_bounded Z7H (fun _ _ _ _ _ _ us hl=>el1 us hl fun _=>rfl) (fun vs H Q E h=>?_) (fun f cdv A outer s H vs Q E hr h=>?_)
 ·obtain ⟨n,rfl,_⟩:=h
  rfl
 obtain ⟨n,rfl,q⟩:=h
 refine ⟨_,(Z0d (Z0L (Z0m Z8w (Z0q J0k rfl T.z_abs J4e (Z0a (pvF 0) Z0b)) (Z5D T.c_GREATEST rfl) (Z0o _)) (Z0f (Z0y (Z0A (Z0a Z0g (Z0a Z0g Z0b))))) Z0C)
  (Z0f (Z0y (Z0A (Z0a Z0g (Z0a (pvF 0) Z0b)))))),?_⟩
 walk_at "rd"
 have hb:(1000000000000000 < if n < 0 then -n else n)↔¬ Bd n:=by unfold Bd; split <;> omega
 simp only [hb]
 unfold Z5d at q
 by_cases hc:Bd n
 ·rw [if_pos hc] at q
  rw [if_neg (fun z=>z hc)]
  exact q
 ·rw [if_neg hc] at q
  rw [if_pos hc]
  exact q
theorem Z4z (T:Txt P w K mg C_Places C_Machine D_ROW_SIGNS):Has P w K mg base 1 "number_told" ["sign","a","b"] Z3i:=by
 refine Has.of T.f_number_told Z4G (fun _ _ _ _ _ _ us hl=>el3 us hl fun _ _ _=>rfl) (fun vs H Q E h=>?_) (fun f cdv A outer s H vs Q E hr h=>?_)
 ·obtain ⟨sg,a,b,rfl,_⟩:=h
  rfl
 obtain ⟨sg,a,b,rfl,ha,hb,hs,q⟩:=h
 refine ⟨_,(Z0d (Z0L (Z0m Z0R (pvF 0) Z0g (Z0o _)) (Z0f (Z0y (Z0k Z0N (pvF 1) (pvF 2)))) Z0C)
  (Z0d (Z0L (Z0m Z0R (pvF 0) Z0g (Z0o _)) (Z0f (Z0y (Z0k Z2r (pvF 1) (pvF 2)))) Z0C)
  (Z0d (Z0L (Z0m Z0R (pvF 0) Z0g (Z0o _)) (Z0f (Z0y (Z0k Z2B (pvF 1) (pvF 2)))) Z0C)
  (Z0f (Z0y (Z0k J0m (pvF 1) (pvF 2))))))),?_⟩
 walk_at "rd"
 unfold num at q
 split
 ·rename_i h1; rw [if_pos h1] at q; exact q
 ·rename_i h1; rw [if_neg h1] at q
  split
  ·rename_i h2; rw [if_pos h2] at q; exact q
  ·rename_i h2; rw [if_neg h2] at q
   split
   ·rename_i h3; rw [if_pos h3] at q; unfold Bd at ha; exact ⟨.inl (by omega),q⟩
   ·rename_i h3; rw [if_neg h3] at q
    have:b≠0:=by
     rcases hs with z | z | z | z
     ·exact absurd z h1
     ·exact absurd z h2
     ·exact absurd z h3
     ·exact z
    unfold Bd at hb
    exact ⟨this,by omega,by omega,q⟩
theorem Z6q (T:Txt P w K mg C_Places C_Machine D_ROW_SIGNS) (h_bounded:Has P w K mg base 1 "bounded" ["number"] Z4K) (h_number_told:Has P w K mg base 1 "number_told" ["sign","a","b"] Z3i):Has P w K mg base 2 "two_told" ["sign","a","b"] (Z4n K):=by
 refine Has.of T.f_two_told Z6r (fun _ _ _ _ _ _ us hl=>el3 us hl fun _ _ _=>rfl) (fun vs H Q E h=>?_) (fun f cdv A outer s H vs Q E hr h=>?_)
 ·obtain ⟨sg,va,vb,r,rfl,_⟩:=h
  rfl
 obtain ⟨sg,va,vb,r,rfl,ht,q⟩:=h
 refine ⟨_,(Z0d (Z0L (Z0m Z0R (pvF 0) Z0g (Z0o _)) (Z0f (Z0y (Z0A (Z0a Z0g (Z0a (Z2x Z4B (pvF 1) (pvF 2) (Z0o _)) Z0b))))) Z0C)
  (Z0d (Z0L (Z0m Z0R (pvF 0) Z0g (Z0o _)) (Z0f (Z0y (Z0A (Z0a Z0g (Z0a (Z2x (r:=rEqD K) (Z4I hr.units) (pvF 1) (pvF 2) (Z0o _)) Z0b))))) Z0C)
  (Z0d (Z0L (PW.pt (Z3M (Z0m Z0R (pvF 0) Z0g (Z0o _)) (Z2Q (Z0m (r:=rEqD K) (Z4I hr.units) (pvF 2) Z0c (Z0o _))))) (Z0f (Z0y (Z0A (Z0a Z0g (Z0a Z0g Z0b))))) Z0C)
  (Z0f (Z0y (Z0x h_bounded hr (by decide) rfl (Z0a (Z0x h_number_told hr (by decide) rfl (Z0a (pvF 0) (Z0a (pvF 1) (Z0a (pvF 2) Z0b)))) Z0b))))))),?_⟩
 walk_at "rd"
 cases ht with
 | lt a b=>
  rw [if_pos rfl]
  exact ⟨a,rfl,b,rfl,fun p hp=>q p _ (Z0i hp _) (SqT.of Z0e)⟩
 | eq ha hb sa sb=>
  rw [if_neg (by decide),if_pos rfl]
  exact ⟨_,ha,_,hb,sa,sb,fun p hp=>q p _ (Z0i hp _) (SqT.of Z0e)⟩
 | ar hs ha hb=>
  rename_i a b
  have fin:∀ sg:Str,¬ (sg="/"∧b=0)→(∀ p H',Same H H'→SqT K H' p (Z7W sg a b)→Q (.ref p) H')→∀ p,H p=none→Q (.ref p) (upd H p (.tup (Z5d (num sg a b)))):=fun sg hn q p hp=>q p _ (Z0i hp _) (by unfold Z7W; rw [if_neg hn]; exact SqT.of Z0e)
  rcases hs with e | e | e | e <;> subst e
  ·rw [if_neg (by decide),if_neg (by decide),if_neg (by decide)]
   exact ⟨_,a,b,rfl,ha,hb,.inl rfl,_,rfl,fin _ (fun z=>absurd z.1 (by decide)) q⟩
  ·rw [if_neg (by decide),if_neg (by decide),if_neg (by decide)]
   exact ⟨_,a,b,rfl,ha,hb,.inr (.inl rfl),_,rfl,fin _ (fun z=>absurd z.1 (by decide)) q⟩
  ·rw [if_neg (by decide),if_neg (by decide),if_neg (by decide)]
   exact ⟨_,a,b,rfl,ha,hb,.inr (.inr (.inl rfl)),_,rfl,fin _ (fun z=>absurd z.1 (by decide)) q⟩
  ·rw [if_neg (by decide),if_neg (by decide),if_pos rfl]
   refine ⟨.int b,.int b,.int 0,.int 0,by with_unfolding_all rfl,by with_unfolding_all rfl,?_⟩
   rw [show PyData.eqv (.int b) (.int 0)=(b == 0) by rw [PyData.eqv]]
   by_cases hz:b=0
   ·rw [beq_iff_eq.mpr hz,if_pos rfl]
    exact fun p hp=>q p _ (Z0i hp _) (by unfold Z7W; rw [if_pos ⟨rfl,hz⟩]; exact SqT.of Z0e)
   ·rw [beq_eq_false_iff_ne.mpr hz,if_neg (by decide)]
    exact ⟨_,a,b,rfl,ha,hb,.inr (.inr (.inr hz)),_,rfl,fin _ (fun z=>hz z.2) q⟩
theorem J1a (T:Txt P w K mg C_Places C_Machine D_ROW_SIGNS):Has P w K mg base 1 "field_value" ["things","thing","place"] (Z7h K):=by
 refine Has.of T.f_field_value sc_field_value (fun _ _ _ _ _ _ us hl=>el3 us hl fun _ _ _=>rfl) (fun vs H Q E h=>?_) (fun f cdv A outer s H vs Q E hr h=>?_)
 ·obtain ⟨tl,th,pl,k,ts,e,ia,hv,inner,v,rfl,_⟩:=h
  rfl
 obtain ⟨tl,th,pl,k,ts,e,ia,hv,inner,v,rfl,h1,h2,h3,h4,h5,h6,q⟩:=h
 refine ⟨_,(Z0d (Z1x (Z0u (r:=Z0U K) Z0w (pvF 0) (Z0u (r:=Z0M K) Z0r (pvF 1) Z0c (fun _ _=>rfl)) (fun _ _=>rfl)) (Z1Z (n:=2) rfl (Z0B (Z0v (i:=3) sc_field_value.nd rfl (Or.inl rfl)) (Z0B (Z0v (i:=4) sc_field_value.nd rfl (Or.inl rfl)) Z1Y))))
  (Z0f (Z0y (Z0u (r:=Z0M K) Z0r (pvF 4) (pvF 2) (fun _ _=>rfl))))),?_⟩
 walk_at "rd"
 exact ⟨_,h2,_,ix1,_,rfl,_,h1,_,h3,_,rfl,_,h4,rfl,_,_,rfl,_,_,rfl,rfl,_,rfl,_,h5,_,h6,q⟩
theorem Z6u (T:Txt P w K mg C_Places C_Machine D_ROW_SIGNS) (h_two_told:Has P w K mg base 2 "two_told" ["sign","a","b"] (Z4n K)) (h_behind:Has P w K mg base 1 "behind" ["frame","many","value"] (Z2N K)):Has P w K mg base 3 "two_done" ["sign","frame"] (Z3Y K):=by
 refine Has.of T.f_two_done sc_two_done (fun _ _ _ _ _ _ us hl=>el2 us hl fun _ _=>rfl) (fun vs H Q E h=>?_) (fun f cdv A outer s H vs Q E hr h=>?_)
 ·obtain ⟨sg,a,F,st,x,y,r,rfl,_⟩:=h
  rfl
 obtain ⟨sg,a,F,st,x,y,r,rfl,hF,hst,hl,ht,q1,q2⟩:=h
 refine ⟨_,(Z0d (Z0I (i:=2) sc_two_done.nd rfl (Or.inl rfl) (Z0u (r:=Z0M K) Z0r (pvF 1) Z0c (fun _ _=>rfl)))
  (Z0d (Z0I (i:=3) sc_two_done.nd rfl (Or.inl rfl) (Z0x h_two_told hr (by decide) rfl (Z0a (pvF 0) (Z0a (Z0u (r:=Z0M K) Z0r (pvF 2) (Z2L Z1N Z0c) (fun _ _=>rfl)) (Z0a (Z0u (r:=Z0M K) Z0r (pvF 2) (Z2L Z1N Z0c) (fun _ _=>rfl)) Z0b)))))
  (Z0d (Z0L (Z0m Z0R (Z0u (r:=Z0M K) Z0r (pvF 3) Z0c (fun _ _=>rfl)) Z0g (Z0o _)) (Z0f (Z0y (Z0A (Z0a (pvF 1) (Z0a (pvF 3) Z0b))))) Z0C)
  (Z0f (Z0y (Z0A (Z0a (Z0x h_behind hr (by decide) rfl (Z0a (pvF 1) (Z0a Z0c (Z0a (Z0u (r:=Z0M K) Z0r (pvF 3) Z0c (fun _ _=>rfl)) Z0b)))) (Z0a Z1E Z0b)))))))),?_⟩
 walk_at "rd"
 obtain ⟨sa,ta,h1,h2,h3⟩:=hF
 rw [hst] at h3
 refine ⟨_,h1,_,rfl,ta,rfl,_,h3,_,J6l st x y,ta,rfl,_,h3,_,J6I st x y,sg,x,y,r,rfl,ht,fun p H1 s1 hp=>?_⟩
 rcases ht.shape with ⟨why,e⟩ | ⟨v,e⟩
 ·subst e
  refine ⟨p,rfl,_,hp,_,ix0,rfl,?_⟩
  rw [if_pos rfl]
  exact fun u hu=>q1 why u p _ rfl (s1.trans (Z0i hu _)) (hp.same (Z0i hu _)) (SqT.of Z0e)
 ·subst e
  refine ⟨p,rfl,_,hp,_,ix0,rfl,?_⟩
  rw [if_neg (by decide)]
  refine ⟨p,rfl,_,hp,_,ix1,a,2,v,F,rfl,FrAt.same ⟨sa,ta,h1,h2,by rw [hst]; exact h3⟩ s1,by rw [hst,List.length_append]; show 2≤_+2; omega,hl,fun f' H2 s2 hf=>?_⟩
  intro u hu
  refine q2 v u f' _ rfl (s1.trans (s2.trans (Z0i hu _))) (FrAt.same ?_ (Z0i hu _)) (SqT.of Z0e)
  rw [hst,List.length_append] at hf
  have e:List.take (st.length+[x,y].length - 2) (st++[x,y])=st:=by
   show List.take (st.length+2 - 2) _=_
   rw [Nat.add_sub_cancel,List.take_left']
   rfl
  rw [e] at hf
  exact hf
theorem J4l (T:Txt P w K mg C_Places C_Machine D_ROW_SIGNS) (h_two_done:Has P w K mg base 3 "two_done" ["sign","frame"] (Z3Y K)) (h_behind:Has P w K mg base 1 "behind" ["frame","many","value"] (Z2N K)) (h_field_value:Has P w K mg base 1 "field_value" ["things","thing","place"] (Z7h K)):Has P w K mg base 4 "own_done" ["row","frame","things"] (Z4L K):=by
 refine Has.of T.f_own_done sc_own_done (fun _ _ _ _ _ _ us hl=>el3 us hl fun _ _ _=>rfl) (fun vs H Q E h=>?_) (fun f cdv A outer s H vs Q E hr h=>?_)
 ·obtain ⟨r,a,tl,nm,args,F,rfl,_⟩:=h
  rfl
 obtain ⟨r,a,tl,nm,args,F,rfl,hR,hF,hl,hl2,hc⟩:=h
 refine ⟨_,(Z0d (Z1x (pvF 1) (Z1Z (n:=4) rfl (Z0B (Z0v (i:=3) sc_own_done.nd rfl (Or.inl rfl)) (Z0B (Z0v (i:=4) sc_own_done.nd rfl (Or.inl rfl)) (Z0B (Z0v (i:=5) sc_own_done.nd rfl (Or.inl rfl)) (Z0B (Z0v (i:=6) sc_own_done.nd rfl (Or.inl rfl)) Z1Y))))))
  (Z0d (Z0I (i:=7) sc_own_done.nd rfl (Or.inl rfl) (Z0u (r:=Z0M K) Z0r (pvF 0) Z0c (fun _ _=>rfl)))
  (Z0d (Z0L (J4I (J4h T.d_ROW_SIGNS (pvF 7) (Z5D T.c_ROW_SIGNS rfl)) (by with_unfolding_all rfl)) (Z0f (Z0y (Z0x h_two_done hr (by decide) rfl (Z0a (J2H T.d_ROW_SIGNS (Z5D T.c_ROW_SIGNS rfl) (pvF 7) (fun _ _=>rfl)) (Z0a (pvF 1) Z0b))))) Z0C)
  (Z0d (Z0L (Z0m Z0R (pvF 7) Z0g (Z0o _)) (Z0f (Z0y (Z0A (Z0a (Z0x h_behind hr (by decide) rfl (Z0a (pvF 1) (Z0a Z0c (Z0a (Z0u (r:=Z0M K) Z0r (pvF 0) Z0c (fun _ _=>rfl)) Z0b)))) (Z0a Z1E Z0b))))) Z0C)
  (Z0d (Z0L (Z0m Z0R (pvF 7) Z0g (Z0o _)) (Z0f (Z0y (Z0A (Z0a (Z0x h_behind hr (by decide) rfl (Z0a (pvF 1) (Z0a Z0c (Z0a (Z0u (r:=Z0M K) Z0r (pvF 5) (Z0u (r:=Z0M K) Z0r (pvF 0) Z0c (fun _ _=>rfl)) (fun _ _=>rfl)) Z0b)))) (Z0a Z1E Z0b))))) Z0C)
  (Z0d (Z0L (Z0m Z0R (pvF 7) Z0g (Z0o _)) (Z0f (Z0y (Z0A (Z0a (Z0x h_behind hr (by decide) rfl (Z0a (pvF 1) (Z0a Z0c (Z0a (J4j (Z0u (r:=Z0M K) Z0r (pvF 6) (Z2L Z1N Z0c) (fun _ _=>rfl))) Z0b)))) (Z0a Z1E Z0b))))) Z0C)
  (Z0d (Z0L (Z0m Z0R (pvF 7) Z0g (Z0o _)) (Z0f (Z0y (Z0A (Z0a (Z0x h_behind hr (by decide) rfl (Z0a (pvF 1) (Z0a Z0c (Z0a (Z0x h_field_value hr (by decide) rfl (Z0a (pvF 2) (Z0a (Z0u (r:=Z0M K) Z0r (pvF 6) (Z2L Z1N Z0c) (fun _ _=>rfl)) (Z0a (Z0u (r:=Z0M K) Z0r (pvF 0) Z0c (fun _ _=>rfl)) Z0b)))) Z0b)))) (Z0a Z1E Z0b))))) Z0C)
  (Z0d (Z0L (Z0m Z0R (pvF 7) Z0g (Z0o _)) (Z0d (Z0I (i:=8) sc_own_done.nd rfl (Or.inl rfl) (Z0k (r:=Z5A K) Z3o (Z0k (r:=Z5A K) Z3o (Z1i (r:=rSlA K) Z2y (pvF 5) Z1D (Z1I (Z0u (r:=Z0M K) Z0r (pvF 0) Z0c (fun _ _=>rfl)))) (Z0A (Z0a (Z0u (r:=Z0M K) Z0r (pvF 6) (Z2L Z1N Z0c) (fun _ _=>rfl)) Z0b))) (Z1i (r:=rSlA K) Z2y (pvF 5) (Z1I (Z0k Z0N (Z0u (r:=Z0M K) Z0r (pvF 0) Z0c (fun _ _=>rfl)) Z0c)) Z1D)))
  (Z0f (Z0y (Z0A (Z0a (Z0A (Z0a (pvF 3) (Z0a (Z0k Z0N (pvF 4) Z0c) (Z0a (pvF 8) (Z0a (Z1i (r:=rSlA K) Z2y (pvF 6) Z1D (Z1I (Z2L Z1N Z0c))) Z0b))))) (Z0a Z1E Z0b)))))) Z0C)
  (Z0d (Z0L (Z0m Z0R (pvF 7) Z0g (Z0o _)) (Z0f (Z0y (Z0A (Z0a (Z0A (Z0a (pvF 3) (Z0a (Z0k Z0N (pvF 4) Z0c) (Z0a (pvF 5) (Z0a (Z1i (r:=rSlA K) Z2y (pvF 6) Z1D (Z1I (Z2L Z1N Z0c))) Z0b))))) (Z0a Z1E Z0b))))) Z0C)
  (Z0d (Z0L (Z0m Z0R (pvF 7) Z0g (Z0o _)) (Z0f (Z0y (Z0A (Z0a (Z0A (Z0a (pvF 3) (Z0a (Z0k Z0N (Z0k Z0N (pvF 4) Z0c) (Z0u (r:=Z0M K) Z0r (pvF 0) Z0c (fun _ _=>rfl))) (Z0a (pvF 5) (Z0a (pvF 6) Z0b))))) (Z0a Z1E Z0b))))) Z0C)
  (Z0d (Z0I (i:=9) sc_own_done.nd rfl (Or.inl rfl) (Z2S (Z3d (Z0u (r:=Z0M K) Z0r (pvF 6) (Z2L Z1N Z0c) (fun _ _=>rfl))) Z0c (Z0u (r:=Z0M K) Z0r (pvF 0) Z0c (fun _ _=>rfl))))
  (Z0f (Z0y (Z0A (Z0a (Z0A (Z0a (pvF 3) (Z0a (Z0k Z0N (Z0k Z0N (pvF 4) Z0c) (pvF 9)) (Z0a (pvF 5) (Z0a (Z1i (r:=rSlA K) Z2y (pvF 6) Z1D (Z1I (Z2L Z1N Z0c))) Z0b))))) (Z0a Z1E Z0b)))))))))))))))),?_⟩
 refine J4s fun uz11 huz11 uz10 huz10 uz9 huz9 uz8 huz8 uz7 huz7 uz6 huz6 uz5 huz5 uz4 huz4 uz3 huz3 uz2 huz2 uz1 huz1=>?_
 walk_at "rd"
 have hF':=hF
 obtain ⟨sa,ta,h1,h2,h3⟩:=hF'
 refine ⟨_,h1,rfl,_,_,rfl,_,_,rfl,_,_,rfl,_,_,rfl,rfl,?_⟩
 subst huz1
 walk_at "rd"
 refine ⟨_,hR,_,ix0,?_⟩
 subst huz2
 walk_at "rd"
 refine ⟨.inr nm,rfl,?_⟩
 rcases hc with ⟨sg,st,x,y,rr,e1,e2,ht,q1,q2⟩ | ⟨F',ho,q⟩
 ·have e3:(valV Z2t (.inr nm)).isSome=true:=by rw [e1]; rfl
  rw [if_pos e3]
  exact ⟨.inr nm,rfl,_,e1,sg,a,F,st,x,y,rr,rfl,hF,e2,hl,ht,q1,q2⟩
 have go:∀ {H1:Hp} {f':Addr},Same H H1→FrAt K H1 f' F'→∀ p,H1 p=none→Q (.ref p) (upd H1 p (.tup [.ref f',.non])):=fun s1 hf p hp=>q _ _ _ (s1.trans (Z0i hp _)) (hf.same (Z0i hp _)) (SqT.of Z0e)
 have fin:∀ {H1:Hp} {x y:Addr} {at':Int},Same H H1→at'=F'.at_→F'.n=F.n→SqT K H1 x F'.sl→SqT K H1 y F'.st→∀ p,H1 p=none→∀ p1,upd H1 p (.tup [F.n,.int at',.ref x,.ref y]) p1=none→Q (.ref p1) (upd (upd H1 p (.tup [F.n,.int at',.ref x,.ref y])) p1 (.tup [.ref p,.non])):=by
  intro H1 x y at' s1 ea en hx hy p hp p1 hp1
  have s2:=Z0i hp (.tup [F.n,.int at',.ref x,.ref y])
  have s3:=Z0i hp1 (.tup [.ref p,.non])
  refine q p1 p _ (s1.trans (s2.trans s3)) ⟨x,y,?_,hx.same (s2.trans s3),hy.same (s2.trans s3)⟩ (SqT.of Z0e)
  rw [en,← ea]
  exact SqT.same (SqT.of Z0e) s3
 cases ho with
 | push v=>
  rw [if_neg (by decide)]
  subst huz3
  walk_at "rd"
  refine ⟨_,hR,_,ix1,a,0,v,F,rfl,hF,Nat.zero_le _,hl,fun p H1 s1 hf=>go s1 ?_⟩
  rw [Nat.sub_zero,List.take_length] at hf
  exact hf
 | load i v e=>
  rw [if_neg (by decide)]
  subst huz3
  walk_at "rd"
  subst huz4
  walk_at "rd"
  refine ⟨_,hR,_,ix1,_,rfl,_,h2,_,e,a,0,v,F,rfl,hF,Nat.zero_le _,hl,fun p H1 s1 hf=>go s1 ?_⟩
  rw [Nat.sub_zero,List.take_length] at hf
  exact hf
 | nt b st e=>
  rw [if_neg (by decide)]
  subst huz3
  walk_at "rd"
  subst huz4
  walk_at "rd"
  subst huz5
  walk_at "rd"
  rw [e] at h3
  refine ⟨_,h3,_,Z2d st (.bl b),b,rfl,a,1,_,F,rfl,hF,by rw [e,List.length_append]; show 1≤_+1; omega,hl,fun p H1 s1 hf=>go s1 ?_⟩
  rw [e,Z9U] at hf
  exact hf
 | get st th k pl ts ee ia hv inner v e g1 g2 g3 g4 g5 g6=>
  rw [if_neg (by decide)]
  subst huz3
  walk_at "rd"
  subst huz4
  walk_at "rd"
  subst huz5
  walk_at "rd"
  subst huz6
  walk_at "rd"
  rw [e] at h3
  refine ⟨_,h3,_,Z2d st (.ref th),_,hR,_,ix1,tl,th,pl,k,ts,ee,ia,hv,inner,v,rfl,g1,g2,g3,g4,g5,g6,a,1,v,F,rfl,hF,by rw [e,List.length_append]; show 1≤_+1; omega,hl,fun p H1 s1 hf=>go s1 ?_⟩
  rw [e,Z9U] at hf
  exact hf
 | keep i v st e k0 k1=>
  rw [if_neg (by decide)]
  subst huz3
  walk_at "rd"
  subst huz4
  walk_at "rd"
  subst huz5
  walk_at "rd"
  subst huz6
  walk_at "rd"
  subst huz7
  walk_at "rd"
  rw [e] at h3
  refine ⟨_,hR,_,ix1,_,rfl,sa,_,rfl,h2,fun p1 H1 s1 hp1=>⟨_,h3.same s1,_,Z2d st v,fun p2 hp2=>?_⟩⟩
  have s2:=Z0i hp2 (.tup [v])
  rw [Z7B] at hp1
  refine ⟨p1,p2,_,_,rfl,rfl,hp1.same s2,SqT.of Z0e,by rw [List.length_take,sizeLine_eq]; show _+1≤_; omega,fun p3 H3 s3 hp3=>?_⟩
  have s13:=s1.trans (s2.trans s3)
  refine ⟨_,hR.same s13,_,ix1,_,rfl,sa,_,rfl,h2.same s13,fun p4 H4 s4 hp4=>?_⟩
  rw [show ((i:Int)+1)=((i+1:Nat):Int) from rfl,Z5o] at hp4
  refine ⟨p3,p4,_,_,rfl,rfl,hp3.same s4,hp4,by rw [List.length_append,List.length_take,List.length_drop,sizeLine_eq]; show _+1+_≤_; omega,fun p5 H5 s5 hp5=>⟨ta,_,rfl,h3.same (s13.trans (s4.trans s5)),fun p6 H6 s6 hp6=>?_⟩⟩
  rw [Z7t] at hp6
  exact fin (s13.trans (s4.trans (s5.trans s6))) rfl rfl (hp5.same s6) hp6
 | drop v st e=>
  rw [if_neg (by decide)]
  subst huz3
  walk_at "rd"
  subst huz4
  walk_at "rd"
  subst huz5
  walk_at "rd"
  subst huz6
  walk_at "rd"
  subst huz7
  walk_at "rd"
  subst huz8
  walk_at "rd"
  rw [e] at h3
  refine ⟨ta,_,rfl,h3,fun p1 H1 s1 hp1=>?_⟩
  rw [Z7t] at hp1
  exact fin s1 rfl rfl (h2.same s1) hp1
 | skip n=>
  rw [if_neg (by decide)]
  subst huz3
  walk_at "rd"
  subst huz4
  walk_at "rd"
  subst huz5
  walk_at "rd"
  subst huz6
  walk_at "rd"
  subst huz7
  walk_at "rd"
  subst huz8
  walk_at "rd"
  subst huz9
  walk_at "rd"
  exact ⟨_,hR,_,ix1,_,rfl,fin (Same.refl H) rfl rfl h2 h3⟩
 | unl n b st e=>
  rw [if_neg (by decide)]
  subst huz3
  walk_at "rd"
  subst huz4
  walk_at "rd"
  subst huz5
  walk_at "rd"
  subst huz6
  walk_at "rd"
  subst huz7
  walk_at "rd"
  subst huz8
  walk_at "rd"
  subst huz9
  walk_at "rd"
  subst huz10
  walk_at "rd"
  rw [e] at h3
  refine ⟨_,h3,_,Z2d st (.bl b),b,rfl,?_⟩
  cases b with
  | true=>
   rw [if_pos rfl]
   subst huz11
   walk_at "rd"
   refine ⟨ta,_,rfl,h3,fun p1 H1 s1 hp1=>?_⟩
   rw [Z7t] at hp1
   exact fin s1 rfl rfl (h2.same s1) hp1
  | false=>
   rw [if_neg (by decide)]
   refine ⟨_,hR,_,ix1,?_⟩
   subst huz11
   walk_at "rd"
   refine ⟨ta,_,rfl,h3,fun p1 H1 s1 hp1=>?_⟩
   rw [Z7t] at hp1
   exact fin s1 rfl rfl (h2.same s1) hp1
theorem Z7Y (T:Txt P w K mg C_Places C_Machine D_ROW_SIGNS):Has P w K mg base 1 "entered" ["block","number","values"] (Z3J K):=by
 refine Has.of T.f_entered sc_entered (fun _ _ _ _ _ _ us hl=>el3 us hl fun _ _ _=>rfl) (fun vs H Q E h=>?_) (fun f cdv A outer s H vs Q E hr h=>?_)
 ·obtain ⟨b,va,nv,m,rows,size,xs,rfl,_⟩:=h
  rfl
 obtain ⟨b,va,nv,m,rows,size,xs,rfl,hb,hv,hz,hs,q⟩:=h
 refine ⟨_,(Z0d (Z0I (i:=3) sc_entered.nd rfl (Or.inl rfl) (Z1r Z1B rfl T.z_tuple Z2Z (Z0a (pvF 2) Z0b)))
  (Z0f (Z0y (Z0A (Z0a (pvF 1) (Z0a Z0c (Z0a (Z0k (r:=Z5A K) Z3o (pvF 3) (Z0k (r:=J3B K) J2Q (Z0A (Z0a Z1E Z0b)) (Z0k Z2r (Z0u (r:=Z0M K) Z0r (pvF 0) Z0c (fun _ _=>rfl)) (Z0q Z0l rfl T.z_len Z0O (Z0a (pvF 3) Z0b))))) (Z0a (Z0A Z0b) Z0b)))))))),?_⟩
 walk_at "rd"
 rcases hv with hv | hv
 ·refine ⟨xs,.inl ⟨hv,fun l hl p hp=>?_⟩⟩
  have s2:=Z0i hp (.tup [.non])
  have S:=(Z0i hl (.tup xs)).trans s2
  have hL:SqT K (upd (upd H l (.tup xs)) p (.tup [.non])) l xs:=SqT.of (s2 _ _ Z0e)
  refine ⟨_,hb.same S,_,ix1,_,.inr hL,_,rfl,p,_,[.non],rfl,rfl,SqT.of Z0e,by simp,by omega,by omega,by rw [sizeLine_eq]; show 1 * _≤_; omega,fun p3 H3 s3 hp3=>?_⟩
  have ek:((size:Int) - (xs.length:Int)).toNat=size - xs.length:=by omega
  rw [ek,Z5l] at hp3
  refine ⟨l,p3,_,_,rfl,rfl,hL.same s3,hp3,by rw [List.length_replicate,sizeLine_eq]; omega,fun p4 H4 s4 hp4=>?_⟩
  intro e he p5 hp5
  have s5:=Z0i he (.tup [])
  have s6:=Z0i hp5 (.tup [nv,.int 0,.ref p4,.ref e])
  exact q p5 _ (S.trans (s3.trans (s4.trans (s5.trans s6)))) ⟨p4,e,SqT.of Z0e,hp4.same (s5.trans s6),SqT.same (SqT.of Z0e) s6⟩
 ·refine ⟨xs,.inr ⟨hv,fun p hp=>?_⟩⟩
  have S:=Z0i hp (.tup [.non])
  have hL:=hv.same S
  refine ⟨_,hb.same S,_,ix1,_,.inr hL,_,rfl,p,_,[.non],rfl,rfl,SqT.of Z0e,by simp,by omega,by omega,by rw [sizeLine_eq]; show 1 * _≤_; omega,fun p3 H3 s3 hp3=>?_⟩
  have ek:((size:Int) - (xs.length:Int)).toNat=size - xs.length:=by omega
  rw [ek,Z5l] at hp3
  refine ⟨va,p3,_,_,rfl,rfl,hL.same s3,hp3,by rw [List.length_replicate,sizeLine_eq]; omega,fun p4 H4 s4 hp4=>?_⟩
  intro e he p5 hp5
  have s5:=Z0i he (.tup [])
  have s6:=Z0i hp5 (.tup [nv,.int 0,.ref p4,.ref e])
  exact q p5 _ (S.trans (s3.trans (s4.trans (s5.trans s6)))) ⟨p4,e,SqT.of Z0e,hp4.same (s5.trans s6),SqT.same (SqT.of Z0e) s6⟩
theorem J0W (T:Txt P w K mg C_Places C_Machine D_ROW_SIGNS):HasM P w K mg base 1 C_Places "__init__" ["self"] (Z7f C_Places):=by
 refine HasM.of T.m_Places___init__ Z3w (fun _ _ _ _ _ _ us hl=>el1 us hl fun _=>rfl) (fun vs H Q E h=>?_) (fun f cdv A outer s H vs Q E hr h=>?_)
 ·obtain ⟨x,dx,rfl,_⟩:=h
  rfl
 obtain ⟨x,dx,rfl,hx,q⟩:=h
 refine ⟨_,(Z0f (Z1w (pvF 0) Z6M rfl)),?_⟩
 walk_at "rd"
 exact fun p hp=>⟨C_Places,dx,[],by rw [Z0h (Z0t hx hp)]; exact hx,T.Places.cl,T.n_Places_by_site,by decide,q p hp⟩
theorem J2s (T:Txt P w K mg C_Places C_Machine D_ROW_SIGNS):HasM P w K mg base 1 C_Places "told" ["self","site"] (Z6A C_Places):=by
 refine HasM.of T.m_Places_told Z4F (fun _ _ _ _ _ _ us hl=>el2 us hl fun _ _=>rfl) (fun vs H Q E h=>?_) (fun f cdv A outer s H vs Q E hr h=>?_)
 ·obtain ⟨x,dx,d,site,hd,n,m,rfl,_⟩:=h
  rfl
 obtain ⟨x,dx,d,site,hd,n,m,rfl,hx,hm,q⟩:=h
 refine ⟨_,(Z0f (Z0y (Z1r Z1X rfl T.z_list Z3X (Z0a (J0g (Z0F hr) (Z0H (pvF 0) rfl) (pvF 1) (Z0D Z0b) ⟨rfl,rfl,rfl,rfl⟩) Z0b)))),?_⟩
 walk_at "rd"
 obtain ⟨kvs,hk,hn,hat⟩:=hm
 refine ⟨C_Places,dx,_,hx,T.Places.cl,T.n_Places_by_site,_,rfl,d,rfl,.inl ⟨kvs,Rd.of hk⟩,fun p hp=>?_⟩
 have s1:=Z0i hp (.lst [])
 refine ⟨_,DGet.k (k:=.inl site) (s1 _ _ hk),?_⟩
 have:=hat site
 unfold getP at q
 cases e:m site with
 | none=>
  rw [e] at this q
  rw [show valV kvs (.inl site)=none from this]
  exact ⟨p,rfl,[],.inl (SqL.of Z0e),fun l hl=>q l _ (s1.free hl) (s1.trans (Z0i hl _)) ⟨[],Z0e,.nil⟩⟩
 | some ps=>
  rw [e] at this q
  obtain ⟨l0,a,b,rs,c1,c2⟩:=this
  rw [a]
  exact ⟨l0,rfl,rs,.inl (SqL.of (s1 _ _ c1)),fun l hl=>q l _ (s1.free hl) (s1.trans (Z0i hl _)) ⟨rs,Z0e,Prs.mono (fun t xs z=>(s1.trans (Z0i hl _)) _ _ z) c2⟩⟩
theorem J0y (T:Txt P w K mg C_Places C_Machine D_ROW_SIGNS) (h_Places_told:HasM P w K mg base 1 C_Places "told" ["self","site"] (Z6A C_Places)):HasM P w K mg base 2 C_Places "asked" ["self","site","house"] (Z7i C_Places):=by
  refine HasM.of T.m_Places_asked sc_Places_asked (fun _ _ _ _ _ _ us hl=>el3 us hl fun _ _ _=>rfl) (fun vs H Q E h=>?_) (fun f cdv A outer s H vs Q E hr h=>?_)
  · obtain ⟨x,dx,d,site,house,hd,n,m,rfl,_⟩:=h
    rfl
  obtain ⟨x,dx,d,site,house,hd,n,m,rfl,hx,hm,hh,hn,hl,q0,q1⟩:=h
  refine ⟨_,(Z0d (Z0I (i:=3) sc_Places_asked.nd rfl (Or.inl rfl) (Z1a (pvF 0) T.Places.cl h_Places_told hr (by decide) (Z0a (pvF 1) Z0b)))
    (Z0d (Z2k rfl sc_Places_asked.nd (i:=4) rfl rfl (BlockOk.of (N:=["pair","house"]) (nl:=[none,some 2]) (cl:=[("house",s.heap.objs.size+1)]) rfl (by decide +kernel) (by decide +kernel) rfl (sub1 rfl) (nm:=["house"]) rfl (by decide +kernel) rfl (fun i hi j hj=>by
            match i,hi with
            | 0,_=>cases hj
             | 1,_=>cases hj; exact ⟨_,rfl,rfl,rfl,.inl rfl⟩
            )) (Z3l (pvF 3))
          (fun C fp s H=>(Z0v (i:=0) (show (["pair","house"]:List Str).Nodup by decide +kernel) rfl (Or.inl rfl)))
          (fun C fp s H=>(Z0m Z0R (Z0u (r:=Z0M K) Z0r (pvF 0) Z0c (fun _ _=>rfl)) (pvF 1) (Z0o _))) (fun C fp s H=>(pvF 0)))
    (Z0d (Z0L (Z0m (r:=rEqD K) (Z4I hr.units) (pvF 4) (Z0D Z0b) (Z0o _)) (Z0f (Z0y Z1E)) Z0C)
    (Z0d (Z3D (Z0F hr) (Z0H (pvF 0) rfl) (pvF 1) (Z0k Z2D (pvF 4) (Z6S rfl (BlockOk.of (N:=["pair","house"]) (nl:=[none,some 2]) (cl:=[("house",s.heap.objs.size+1)]) rfl (by decide +kernel) (by decide +kernel) rfl (sub1 rfl) (nm:=["house"]) rfl (by decide +kernel) rfl (fun i hi j hj=>by
            match i,hi with
            | 0,_=>cases hj
             | 1,_=>cases hj; exact ⟨_,rfl,rfl,rfl,.inl rfl⟩
            )) (Z3l (pvF 3))
          (fun C fp s H=>(Z0v (i:=0) (show (["pair","house"]:List Str).Nodup by decide +kernel) rfl (Or.inl rfl)))
          (fun C fp s H=>(Z0m J2T (Z0u (r:=Z0M K) Z0r (pvF 0) Z0c (fun _ _=>rfl)) (pvF 1) (Z0o _))) (fun C fp s H=>(pvF 0)))) rfl)
    (Z0f (Z0y (Z0u (r:=Z0M K) Z0r (Z0u (r:=Z0U K) Z0w (pvF 4) Z0c (fun _ _=>rfl)) Z0c (fun _ _=>rfl)))))))),?_⟩
  walk_at "rd"
  refine ⟨dx,_,hx,rfl,x,dx,d,site,hd,n,m,rfl,hx,hm,fun l H1 hl1 s1 hq=>?_⟩
  obtain ⟨rs,hr1,hr2⟩:=hq
  have lr:rs.length=(getP m site).length:=Paired.length hr2
  have lz:rs.length≤sizeLine:=by rw [lr,sizeLine_eq]; omega
  refine ⟨l,rfl,⟨_,SqL.of hr1⟩,fun D hD=>?_⟩
  refine Z4R [some (.int house)] (fun p=>decide (p.1=house)) none rfl (SqL.of hr1) hD hr2 lz (fun t p l' K' ht k=>?_) fun fs hf=>?_
  · walk_at "rd"
    exact ⟨_,SqT.of ht,_,ix0,rfl,by simpa using k⟩
  have s2:=s1.trans (Z0i hD (.lst fs))
  have hfD:SqP (upd H1 D (.lst fs)) D (seen (getP m site) house):=⟨_,Z0e,hf⟩
  have hr1':=(Z0i hD (.lst fs)) _ _ hr1
  have hr2':=Prs.mono (fun t xs z=>(Z0i hD (.lst fs)) _ _ z) hr2
  generalize upd H1 D (.lst fs)=H2 at *
  intro p hp
  have s3:=Z0i hp (.lst [])
  refine ⟨_,(hfD.same s3).rd,_,.lst (SqL.of Z0e) .nil,Z9P _,by decide +kernel,?_⟩
  rw [Z7X]
  cases e:seen (getP m site) house with
  | nil=>exact iteT (q0 e _ (s2.trans s3))
  | cons p0 r0=>
    refine iteF ?_
    obtain ⟨fs',hfl,hfp⟩:=hfD
    refine ⟨l,rfl,⟨_,SqL.of (s3 _ _ hr1')⟩,fun D2 hD2=>?_⟩
    refine Z4R [some (.int house)] (fun p=>!decide (p.1=house)) none rfl (SqL.of (s3 _ _ hr1')) hD2 (Prs.mono (fun t xs z=>s3 _ _ z) hr2') lz (fun t p l' K' ht k=>?_) fun gs hg=>?_
    · walk_at "rd"
      exact ⟨_,SqT.of ht,_,ix0,rfl,by simpa using k⟩
    have s4:=Z0i hD2 (.lst gs)
    have lf:fs'.length≤2:=by
      rw [Paired.length hfp]
      exact Nat.le_trans (List.length_filter_le _ _) hl
    have lg:gs.length≤2:=by
      rw [Paired.length hg]
      exact Nat.le_trans (List.length_filter_le _ _) hl
    refine ⟨D,rfl,D2,rfl,_,s4 _ _ (s3 _ _ hfl),_,Z0e,by omega,fun p2 hp2=>?_⟩
    have s5:=Z0i hp2 (.lst (fs'++gs))
    have S4:=(s2.trans s3).trans s4
    have S:=S4.trans s5
    obtain ⟨kvs,k1,k2,k3⟩:=hm.same S
    have hD5:=((s3.trans s4).trans s5) _ _ hfl
    have hfp5:=Prs.mono (fun t xs z=>((s3.trans s4).trans s5) _ _ z) hfp
    have hg5:=Prs.mono (fun t xs z=>s5 _ _ z) hg
    have np:¬ hd p2:=fun z=>by
      obtain ⟨oh,eh⟩:=Option.ne_none_iff_exists'.mp (hh _ z)
      exact Z0t (S4 _ _ eh) hp2 rfl
    have h5:upd (upd (upd H2 p (.lst [])) D2 (.lst gs)) p2 (.lst (fs'++gs)) p2=some (.lst (fs'++gs)):=Z0e
    generalize upd (upd (upd H2 p (.lst [])) D2 (.lst gs)) p2 (.lst (fs'++gs))=H5 at *
    have rp:=Rep.put (k:=site) k1 k2 k3 np ⟨_,h5,Paired.appendP hfp5 hg5⟩
    have nD:D≠d:=Z1l hD5 k1 (fun z=>by cases z)
    rw [e] at hfp5
    cases hfp5 with
    | cons hv0 hrest=>
      obtain ⟨t0,rfl,ht0⟩:=hv0
      have nt:t0≠d:=Z1l ht0 k1 (fun z=>by cases z)
      refine ⟨C_Places,dx,_,S _ _ hx,T.Places.cl,T.n_Places_by_site,_,rfl,d,rfl,_,DPut.k (k:=.inl site) k1 (Nat.lt_of_le_of_lt k2 (Nat.lt_trans hn (by rw [sizeLine_eq]; decide))),D,rfl,_,SqL.of (by rw [Z0h nD]; exact hD5),_,ix0,t0,rfl,_,SqT.of (by rw [Z0h nt]; exact ht0),_,ix1,?_⟩
      exact q1 p0 r0 e _ ((Same.x S d).trans (Z1c _)) rp
theorem J3r (T:Txt P w K mg C_Places C_Machine D_ROW_SIGNS) (h_Places_told:HasM P w K mg base 1 C_Places "told" ["self","site"] (Z6A C_Places)):HasM P w K mg base 2 C_Places "put" ["self","site","house","block"] (J1o C_Places):=by
 refine HasM.of T.m_Places_put Z5r (fun _ _ _ _ _ _ us hl=>el4 us hl fun _ _ _ _=>rfl) (fun vs H Q E h=>?_) (fun f cdv A outer s H vs Q E hr h=>?_)
 ·obtain ⟨x,dx,d,site,house,block,hd,n,m,rfl,_⟩:=h
  rfl
 obtain ⟨x,dx,d,site,house,block,hd,n,m,rfl,hx,hm,hh,hn,hl,q⟩:=h
 refine ⟨_,(Z0f (Z3D (Z0F hr) (Z0H (pvF 0) rfl) (pvF 1) (Z1i (r:=rSlL K) Z5t (Z0k Z2D (Z0D (Z0a (Z0A (Z0a (pvF 2) (Z0a (pvF 3) Z0b))) Z0b)) (Z1a (pvF 0) T.Places.cl h_Places_told hr (by decide) (Z0a (pvF 1) Z0b))) Z1D (Z1I (Z5D T.c_MOST_PAIRS rfl))) rfl)),?_⟩
 walk_at "rd"
 intro p hp t ht
 have S1:=Z0i hp (.tup [.int house,.int block])
 have S2:=Z0i ht (.lst [.ref p])
 have S12:=S1.trans S2
 refine ⟨dx,_,S12 _ _ hx,rfl,x,dx,d,site,hd,n,m,rfl,S12 _ _ hx,hm.same S12,fun l H2 hl2 s2 hq=>?_⟩
 obtain ⟨rs,hr1,hr2⟩:=hq
 have lr:rs.length=(getP m site).length:=Paired.length hr2
 refine ⟨l,rfl,_,s2 _ _ Z0e,_,hr1,by rw [lr]; show 1+_≤_; omega,fun u hu=>⟨_,SqL.of Z0e,fun v hv=>?_⟩⟩
 have S3:=Z0i hu (.lst ([.ref p]++rs))
 have S4:=Z0i hv (.lst (cutV ([.ref p]++rs) none (some 2)))
 have S23:=(S12.trans s2).trans S3
 have S:=S23.trans S4
 obtain ⟨kvs,k1,k2,k3⟩:=hm.same S
 refine ⟨C_Places,dx,_,S _ _ hx,T.Places.cl,T.n_Places_by_site,_,rfl,d,rfl,_,DPut.k (k:=.inl site) k1 (Nat.lt_of_le_of_lt k2 (Nat.lt_trans hn (by rw [sizeLine_eq]; decide))),q _ ((Same.x S d).trans (Z1c _)) ?_⟩
 have hp4:=(((S2.trans s2).trans S3).trans S4) _ _ (Z0e (H:=H) (a:=p) (o:=.tup [.int house,.int block]))
 have hr4:=Prs.mono (fun t xs z=>(S3.trans S4) _ _ z) hr2
 refine Rep.put k1 k2 k3 (fun z=>by obtain ⟨oh,eh⟩:=Option.ne_none_iff_exists'.mp (hh _ z); exact Z0t (S23 _ _ eh) hv rfl) ⟨_,Z0e,?_⟩
 generalize upd (upd H2 u (.lst ([.ref p]++rs))) v (.lst (cutV ([.ref p]++rs) none (some 2)))=H4 at hp4 hr4 ⊢
 rw [cut2]
 exact Paired.takeP 2 (.cons ⟨p,rfl,hp4⟩ hr4)end
end K65
end
section
namespace K65
open PySem L2 MM
open Mach (AV AFr Row Sg Blk MS PL Mem getP updM seen Z0K Bd)
seal L2.PE L2.PA L2.PT L2.PS L2.PSs L2.PG L2.PGs L2.PI L2.PW
section
variable (CM CP:Addr) (K:W.Frag)
inductive J3o (vs:List V) (H:Hp) (Q:VK):Prop
 | mk (a:Addr) (m:Nat) (F:Fr) (a1:vs=[.ref a,.int m]) (a2:FrAt K H a F) (a3:m≤F.st.length) (a4:F.st.length < 100000) (a5:∀ p H',Same H H'→SqT K H' p (F.st.drop (F.st.length - m))→Q (.ref p) H'):J3o vs H Q
def Z9Z:Sp:=fun vs H Q _=>J3o K vs H Q
inductive J1G (vs:List V) (H:Hp) (Q:VK):Prop
 | mk (ex:Addr→Prop) (o:MO) (P:Mach.Prog) (s:MS) (a:Addr) (e:Mach.End) (a1:vs=[.ref o.x,.ref a]) (a2:MAt CM CP K ex o P s H) (a3:EndIs K H a e) (a4:∀ q H',Keep ex H H'→MAt CM CP K ex { o with sk:=q } P (Mach.ends s e) H'→Q .non H'):J1G vs H Q
def Z7o:Sp:=fun vs H Q _=>J1G CM CP K vs H Q
def endV (s:MS):AV→Option Mach.End
 | .th k=>(s.made[k]?).map fun t=>.thing t.1
 | v=>some (.val v)
inductive Z7u (vs:List V) (H:Hp) (Q:VK):Prop
 | mk (ex:Addr→Prop) (o:MO) (P:Mach.Prog) (s:MS) (v:V) (x:AV) (e:Mach.End) (a1:vs=[.ref o.x,v]) (a2:MAt CM CP K ex o P s H) (a3:AtV K H v x) (a4:(∀ t∈s.made,t.1 < 1000000)) (a5:endV s x=some e) (a6:∀ a H',Same H H'→EndIs K H' a e→Q (.ref a) H'):Z7u vs H Q
def Z7w:Sp:=fun vs H Q _=>Z7u CM CP K vs H Q
def Does (ex:Addr→Prop) (o:MO) (P:Mach.Prog) (H:Hp) (s':MS) (v:V) (Q:VK):Prop:=∀ o' H',o'.x=o.x→Keep ex H H'→MAt CM CP K ex o' P s' H'→Q v H'
structure Top (H:Hp) (o:MO) (P:Mach.Prog) (n:Nat) (s:MS) (a:Addr) (f:AFr) (fs:List AFr):Prop where
 fr:s.frames=f::fs
 at_:FrIs K H a f
 sz:Mach.Sz n s
 psz:Mach.PSz P
 nn:n < 90000
inductive Z6d (vs:List V) (H:Hp) (Q:VK):Prop
 | mk (ex:Addr→Prop) (o:MO) (P:Mach.Prog) (s:MS) (a:Addr) (n:Nat) (f:AFr) (fs:List AFr) (s':MS) (a1:vs=[.ref o.x,.ref a]) (a2:MAt CM CP K ex o P s H) (a3:Top K H o P n s a f fs) (a4:Mach.rowM P s f fs .back=some s') (a5:Does CM CP K ex o P H s' .non Q):Z6d vs H Q
def Z5C:Sp:=fun vs H Q _=>Z6d CM CP K vs H Q
inductive Z6i (vs:List V) (H:Hp) (Q:VK):Prop
 | mk (ex:Addr→Prop) (o:MO) (P:Mach.Prog) (s:MS) (a:Addr) (block many n:Nat) (f:AFr) (fs:List AFr) (s':MS) (a1:vs=[.ref o.x,.int block,.int many,.ref a]) (a2:MAt CM CP K ex o P s H) (a3:Top K H o P n s a f fs) (a4:Mach.enter P s f fs block many=some s') (a5:Does CM CP K ex o P H s' .non Q):Z6i vs H Q
def Z5K:Sp:=fun vs H Q _=>Z6i CM CP K vs H Q
inductive Z5x (vs:List V) (H:Hp) (Q:VK):Prop
 | mk (ex:Addr→Prop) (o:MO) (P:Mach.Prog) (s:MS) (a:Addr) (site word many n k:Nat) (f:AFr) (fs:List AFr) (rest:List AV) (t:Nat×List AV) (b:Nat) (s':MS) (a1:vs=[.ref o.x,.int site,.int word,.int many,.ref a]) (a2:MAt CM CP K ex o P s H) (a3:Top K H o P n s a f fs) (a4:(f.st.take many).reverse=.th k::rest) (a5:many≤f.st.length) (a6:s.made[k]?=some t) (a7:Mach.found P s t.1 site word=some (b,s')) (a8:∀ H',Keep ex H H'→MAt CM CP K ex o P s' H'→Q (.int b) H'):Z5x vs H Q
def Z5P:Sp:=fun vs H Q _=>Z5x CM CP K vs H Q
inductive Z8Y (vs:List V) (H:Hp) (Q:VK):Prop
 | mk (ex:Addr→Prop) (o:MO) (P:Mach.Prog) (s:MS) (a:Addr) (pl n:Nat) (f:AFr) (fs:List AFr) (s':MS) (a1:vs=[.ref o.x,.int pl,.ref a]) (a2:MAt CM CP K ex o P s H) (a3:Top K H o P n s a f fs) (a4:Mach.rowM P s f fs (.put pl)=some s') (a5:Does CM CP K ex o P H s' .non Q):Z8Y vs H Q
def Z8u:Sp:=fun vs H Q _=>Z8Y CM CP K vs H Q
inductive Z7l (vs:List V) (H:Hp) (Q:VK):Prop
 | mk (ex:Addr→Prop) (o:MO) (P:Mach.Prog) (s:MS) (a:Addr) (h m n:Nat) (f:AFr) (fs:List AFr) (s':MS) (a1:vs=[.ref o.x,.int h,.int m,.ref a]) (a2:MAt CM CP K ex o P s H) (a3:Top K H o P n s a f fs) (a4:Mach.rowM P s f fs (.make h m)=some s') (a5:Does CM CP K ex o P H s' .non Q):Z7l vs H Q
def Z6F:Sp:=fun vs H Q _=>Z7l CM CP K vs H Q
def Z9L:Row→Bool
 | .make _ _=>false
 | .put _=>false
 | .call _ _ _=>false
 | .straight _ _=>false
 | .back=>false
 | _=>true
inductive Z7n (vs:List V) (H:Hp) (Q:VK):Prop
 | mk (ex:Addr→Prop) (o:MO) (P:Mach.Prog) (s:MS) (r a:Addr) (row:Row) (n:Nat) (f:AFr) (fs:List AFr) (s':MS) (a1:vs=[.ref o.x,.ref r,.ref a]) (a2:MAt CM CP K ex o P s H) (a3:Top K H o P n s a f fs) (a4:RowAt K H r row) (a5:Z9L row=true) (a6:Mach.rowM P s f fs row=some s') (a7:Does CM CP K ex o P H s' .non Q):Z7n vs H Q
def Z7v:Sp:=fun vs H Q _=>Z7n CM CP K vs H Q
inductive Z7q (vs:List V) (H:Hp) (Q:VK):Prop
 | mk (ex:Addr→Prop) (o:MO) (P:Mach.Prog) (s:MS) (a1:vs=[.ref o.x]) (a2:MAt CM CP K ex o P s H) (a3:((s.ended≠none∧Q (.bl false) H)∨∃ n s',Mach.step P s=some s'∧Mach.Sz n s∧Mach.PSz P∧n < 80000∧Does CM CP K ex o P H s' (.bl true) Q)):Z7q vs H Q
def Z5j:Sp:=fun vs H Q _=>Z7q CM CP K vs H Q
inductive J1N (g:MS→Nat) (vs:List V) (H:Hp) (Q:VK):Prop
 | mk (ex:Addr→Prop) (o:MO) (P:Mach.Prog) (s:MS) (a1:vs=[.ref o.x]) (a2:MAt CM CP K ex o P s H) (a3:Q (.int (g s)) H):J1N g vs H Q
def Z3r (g:MS→Nat):Sp:=fun vs H Q _=>J1N CM CP K g vs H Q
inductive Z5v (vs:List V) (H:Hp) (Q:VK):Prop
 | mk (ex:Addr→Prop) (o:MO) (P:Mach.Prog) (s:MS) (a1:vs=[.ref o.x]) (a2:MAt CM CP K ex o P s H) (a3:∀ e,EndAt K H e s.ended→Q e H):Z5v vs H Q
def Z5U:Sp:=fun vs H Q _=>Z5v CM CP K vs H Q
inductive Z6h (vs:List V) (H:Hp) (Q:VK):Prop
 | mk (ex:Addr→Prop) (o:MO) (P:Mach.Prog) (s:MS) (a1:vs=[.ref o.x]) (a2:MAt CM CP K ex o P s H) (a3:∀ l ss,H l=none→Paired (FrV K H) ss s.frames.reverse→Q (.ref l) (upd H l (.lst ss))):Z6h vs H Q
def Z5O:Sp:=fun vs H Q _=>Z6h CM CP K vs H Q
end
theorem Z4A {K:W.Frag}:W.kitOne K (.type "bool") (.type "tuple")=some false:=by with_unfolding_all rfl
theorem Z5n {K:W.Frag}:W.kitOne K (.type "int") (.type "tuple")=some false:=by with_unfolding_all rfl
theorem Z5b {K:W.Frag}:W.kitOne K (.type "NoneType") (.type "tuple")=some false:=by with_unfolding_all rfl
theorem J0v {P:Mach.Prog} {s s2:MS} {f:AFr} {v:AV} {st:List AV} (h:Mach.rowM P s f [] .back=some s2) (e:f.st=v::st):∃ x,endV s v=some x∧s2=Mach.ends s x:=by
 simp only [Mach.rowM,e] at h
 cases v with
 | th k=>
  simp only at h
  obtain ⟨t,ht,rfl⟩:=Option.map_eq_some_iff.mp h
  exact ⟨.thing t.1,by show (s.made[k]?).map _=_; rw [ht]; rfl,rfl⟩
 | non=>cases h; exact ⟨_,rfl,rfl⟩
 | bl b=>cases h; exact ⟨_,rfl,rfl⟩
 | int i=>cases h; exact ⟨_,rfl,rfl⟩
theorem Z9k {P:Mach.Prog} {s s2:MS} {f g:AFr} {fs:List AFr} {v:AV} {st:List AV} (h:Mach.rowM P s f (g::fs) .back=some s2) (e:f.st=v::st):s2={ s with frames:={ g with st:=v::g.st }::fs }:=by
 simp only [Mach.rowM,e] at h
 cases h; rfl
theorem J2v {P:Mach.Prog} {s s2:MS} {f:AFr} {fs:List AFr} (h:Mach.rowM P s f fs .back=some s2):∃ v st,f.st=v::st:=by
 cases e:f.st with
 | nil=>simp only [Mach.rowM,e] at h; cases h
 | cons v st=>exact ⟨v,st,rfl⟩
section
variable {C_Places C_Machine D_ROW_SIGNS:Addr} {P:Program} {w:World} {K:W.Frag} {mg:Str→Option Value} {base:Heap}
theorem J6H (T:Txt P w K mg C_Places C_Machine D_ROW_SIGNS):Has P w K mg base 1 "uppermost" ["frame","many"] (Z9Z K):=by
 refine Has.of T.f_uppermost sc_uppermost (fun _ _ _ _ _ _ us hl=>el2 us hl fun _ _=>rfl) (fun vs H Q E h=>?_) (fun f cdv A outer s H vs Q E hr h=>?_)
 ·obtain ⟨a,m,F,rfl,_⟩:=h
  rfl
 obtain ⟨a,m,F,rfl,hF,hm,hl,q⟩:=h
 refine ⟨_,(Z0d (Z0I (i:=2) sc_uppermost.nd rfl (Or.inl rfl) (Z0u (r:=Z0M K) Z0r (pvF 0) Z0c (fun _ _=>rfl)))
  (Z0f (Z0y (Z1i (r:=rSlA K) Z2y (pvF 2) (Z1I (Z0k Z2r (Z0q Z0l rfl T.z_len Z0O (Z0a (pvF 2) Z0b)) (pvF 1))) Z1D)))),?_⟩
 walk_at "rd"
 obtain ⟨sa,ta,h1,h2,h3⟩:=hF
 refine ⟨_,h1,_,ix3,ta,rfl,_,.inr h3,ta,_,rfl,h3,fun p H' s' hp=>q p H' s' ?_⟩
 rw [show ((F.st.length:Int) - (m:Int))=((F.st.length - m:Nat):Int) by omega,Z5o] at hp
 exact hp
theorem J4r (T:Txt P w K mg C_Places C_Machine D_ROW_SIGNS):HasM P w K mg base 1 C_Machine "end" ["self","told"] (Z7o C_Machine C_Places K):=by
 refine HasM.of T.m_Machine_end Z4E (fun _ _ _ _ _ _ us hl=>el2 us hl fun _ _=>rfl) (fun vs H Q E h=>?_) (fun f cdv A outer s H vs Q E hr h=>?_)
 ·obtain ⟨ex,o,P,s,a,e,rfl,_⟩:=h
  rfl
 obtain ⟨ex,o,P',s',a,e,rfl,M,he,q⟩:=h
 refine ⟨_,(Z0d (Z1w (pvF 0) (pvF 1) rfl)
  (Z0f (Z1w (pvF 0) (Z0D Z0b) rfl))),?_⟩
 walk_at "rd"
 obtain ⟨e0,hx,he0⟩:=M.ins
 refine ⟨C_Machine,o.dx,_,hx,T.Machine.cl,T.n_Machine_ended,Z4a,fun p hp=>?_⟩
 rw [J0Q] at hp ⊢
 obtain ⟨M1,k1⟩:=M.ends he hp
 have nx:o.x≠p:=Z0t Z0e hp
 refine ⟨C_Machine,o.dx,_,(by rw [Z0h nx]; exact Z0e),T.Machine.cl,T.n_Machine_stacked,Z4a,?_⟩
 rw [Z7F]
 exact q p _ k1 M1
theorem J0f (T:Txt P w K mg C_Places C_Machine D_ROW_SIGNS):HasM P w K mg base 1 C_Machine "told_answer" ["self","value"] (Z7w C_Machine C_Places K):=by
 refine HasM.of T.m_Machine_told_answer Z2M (fun _ _ _ _ _ _ us hl=>el2 us hl fun _ _=>rfl) (fun vs H Q E h=>?_) (fun f cdv A outer s H vs Q E hr h=>?_)
 ·obtain ⟨ex,o,P,s,v,x,e,rfl,_⟩:=h
  rfl
 obtain ⟨ex,o,P',s',v,x,e,rfl,M,hv,hm,he,q⟩:=h
 refine ⟨_,(Z0d (Z0L (Z3d (Z0q (r:=rIsi K) J0h rfl T.z_isinstance Z5i (Z0a (pvF 1) (Z0a (J2c (v:=.ty "tuple") rfl T.z_tuple Z2Z rfl) Z0b)))) (Z0f (Z0y (Z0A (Z0a Z0g (Z0a (Z0u (r:=Z0M K) Z0r (Z0u (r:=Z0U K) Z0w (Z0H (pvF 0) rfl) (Z0u (r:=Z0M K) Z0r (pvF 1) Z0c (fun _ _=>rfl)) (fun _ _=>rfl)) Z0c (fun _ _=>rfl)) Z0b))))) Z0C)
  (Z0f (Z0y (Z0A (Z0a Z0g (Z0a (pvF 1) Z0b)))))),?_⟩
 walk_at "rd"
 have val:∀ {A:Prop} {v:V} {x:AV},AtV K H v x→e=.val x→(if false=true then A else ∀ (p:Addr),H p=none→Q (V.ref p) (upd H p (HO.tup [V.str "value",v]))):=fun hv e1=>by
  subst e1
  rw [if_neg (by decide)]
  exact fun p hp=>q p _ (Z0i hp _) ⟨_,SqT.of Z0e,AtV.t hv (Same.t (Z0i hp _))⟩
 cases x with
 | non=>cases he; have hv':=hv; obtain rfl:v=.non:=hv; exact ⟨_,_,_,_,_,rfl,rfl,.non,Z5b,false,rfl,val hv' rfl⟩
 | bl b=>cases he; have hv':=hv; obtain rfl:v=.bl b:=hv; exact ⟨_,_,_,_,_,rfl,rfl,.bl b,Z4A,false,rfl,val hv' rfl⟩
 | int i=>cases he; have hv':=hv; obtain ⟨rfl,_⟩:=hv; exact ⟨_,_,_,_,_,rfl,rfl,.int i,Z5n,false,rfl,val hv' rfl⟩
 | th k=>
  obtain ⟨t,rfl,ht,hk⟩:=hv
  obtain ⟨tt,htt,rfl⟩:=Option.map_eq_some_iff.mp he
  obtain ⟨e0,hx,he0⟩:=M.ins
  obtain ⟨ms,m1,m2⟩:=M.mad
  obtain ⟨y,hy,e1,ia,inner,rfl,q1,q2,q3⟩:=Pd.at m2 htt
  refine J2b ht ⟨true,rfl,?_⟩
  rw [if_pos rfl]
  exact ⟨C_Machine,o.dx,_,hx,T.Machine.cl,T.n_Machine_made,_,Z2O,t,rfl,_,SqT.of ht,_,ix1,o.md,rfl,k,rfl,ms,SqL.of m1,_,Z0P hy,e1,rfl,_,q1,_,ix0,fun p hp=>q p _ (Z0i hp _) ⟨SqT.of Z0e,hm tt (List.mem_of_getElem? htt)⟩⟩
theorem Z8C (T:Txt P w K mg C_Places C_Machine D_ROW_SIGNS) (h_Machine_told_answer:HasM P w K mg base 1 C_Machine "told_answer" ["self","value"] (Z7w C_Machine C_Places K)) (h_Machine_end:HasM P w K mg base 1 C_Machine "end" ["self","told"] (Z7o C_Machine C_Places K)):HasM P w K mg base 2 C_Machine "go_back" ["self","frame"] (Z5C C_Machine C_Places K):=by
 refine HasM.of T.m_Machine_go_back sc_Machine_go_back (fun _ _ _ _ _ _ us hl=>el2 us hl fun _ _=>rfl) (fun vs H Q E h=>?_) (fun f cdv A outer s H vs Q E hr h=>?_)
 ·obtain ⟨ex,o,P,s,a,n,f,fs,s',rfl,_⟩:=h
  rfl
 obtain ⟨ex,o,P',s',a,n,fr,fs,s2,rfl,M,top,hrow,q⟩:=h
 refine ⟨_,(Z0d (Z0I (i:=2) sc_Machine_go_back.nd rfl (Or.inl rfl) (Z0u (r:=Z0M K) Z0r (Z0u (r:=Z0M K) Z0r (pvF 1) Z0c (fun _ _=>rfl)) (Z2L Z1N Z0c) (fun _ _=>rfl)))
  (Z0d (Z0p (Z9H PySem.F.plainAttrs_list PySem.F.slot_list_pop PySem.F.type_list_pop Z8Q (Z0H (pvF 0) rfl)))
  (Z0f (Z0L (Z0m (r:=rEqD K) (Z4I hr.units) (Z0H (pvF 0) rfl) (Z0D Z0b) (Z0o _)) (Z0f (Z0p (Z1a (pvF 0) T.Machine.cl h_Machine_end hr (by decide) (Z0a (Z1a (pvF 0) T.Machine.cl h_Machine_told_answer hr (by decide) (Z0a (pvF 2) Z0b)) Z0b)))) (Z0d (Z1x (Z0u (r:=Z0U K) Z0w (Z0H (pvF 0) rfl) (Z2L Z1N Z0c) (fun _ _=>rfl)) (Z1Z (n:=4) rfl (Z0B (Z0v (i:=3) sc_Machine_go_back.nd rfl (Or.inl rfl)) (Z0B (Z0v (i:=4) sc_Machine_go_back.nd rfl (Or.inl rfl)) (Z0B (Z0v (i:=5) sc_Machine_go_back.nd rfl (Or.inl rfl)) (Z0B (Z0v (i:=6) sc_Machine_go_back.nd rfl (Or.inl rfl)) Z1Y))))))
  (Z0f (Z1x (Z0A (Z0a (pvF 3) (Z0a (pvF 4) (Z0a (pvF 5) (Z0a (Z0k (r:=Z5A K) Z3o (pvF 6) (Z0A (Z0a (pvF 2) Z0b))) Z0b))))) (Z3t (Z0H (pvF 0) rfl) (Z2L Z1N Z0c) Z1M)))))))),?_⟩
 refine seq3 fun u2 hu2 u1 hu1=>?_
 walk_at "rd"
 obtain ⟨ss,a',hsk,hss,hfa⟩:=M.top top.fr
 obtain ⟨e0,hx,he0⟩:=M.ins
 obtain ⟨v,st,hst⟩:=J2v hrow
 obtain ⟨F,sa,ta,h1,h2,h3,e1,e2,hsl,hstk,l1,l2⟩:=top.at_.st
 rw [hst,List.reverse_cons] at hstk
 obtain ⟨sv,vv,esv,hst',hv⟩:=Pd.snoc_inv hstk
 rw [esv] at h3
 refine ⟨_,h1,_,ix3,ta,rfl,_,h3,_,Z2d sv vv,?_⟩
 subst hu1
 walk_at "rd"
 refine ⟨C_Machine,o.dx,_,hx,T.Machine.cl,T.n_Machine_stacked,_,Z0S,.inl ⟨rfl,_,SqL.of hsk⟩,o.sk,rfl,_,hsk,_,by simp; rfl,?_⟩
 rw [List.dropLast_concat]
 obtain ⟨M1,k1⟩:=M.frames (fr:=fs) (ss':=ss) hss
 obtain ⟨e3,hx1,_⟩:=M1.ins
 subst hu2
 walk_at "rd"
 refine ⟨C_Machine,o.dx,_,hx1,T.Machine.cl,T.n_Machine_stacked,_,Z0S,fun p hp=>?_⟩
 have sp:=Z0i hp (.lst [])
 have M2:=M1.same sp
 obtain ⟨ss2,b1,b2⟩:=M2.stk
 obtain ⟨d,rd,sd,ev⟩:=J2Z (SqL.of b1) b2
 refine ⟨d,rd,_,J4C Z0e,sd,Z7G,?_⟩
 rw [ev]
 have K2:=k1.trans (M1.keepS sp)
 obtain ⟨e4,hx3,_⟩:=M2.ins
 clear sp hp M1 hx1 k1 rd sd ev
 generalize upd (upd H o.sk (.lst ss)) p (.lst [])=H2 at *
 cases fs with
 | nil=>
  refine iteT ?_
  obtain ⟨e,he,rfl⟩:=J0v hrow hst
  exact ⟨o.dx,_,hx3,rfl,o.dx,_,hx3,rfl,ex,o,P',_,vv,v,e,rfl,M2,AtV.t hv K2.t,fun t ht=>by have:=top.sz.mi t ht; omega,he,fun a4 H4 s4 he4=>⟨ex,o,P',_,a4,e,rfl,M2.same s4,he4,fun q' H5 k5 M5=>q { o with sk:=q' } _ rfl (K2.trans ((M2.keepS s4).trans k5)) M5⟩⟩
 | cons g gs=>
  have:(g::gs).reverse.isEmpty=false:=by simp
  rw [show ({ s' with frames:=g::gs }:MS).frames.reverse.isEmpty=false from this,if_neg (by decide)]
  obtain ⟨ss3,ag,c1,c2,c3⟩:=M2.top rfl
  obtain ⟨G,sg,tg,g1,g2,g3,g4,g5,g6,g7,g8,g9⟩:=c3.st
  have lg:=top.sz.fr g (by rw [top.fr]; exact List.mem_cons_of_mem _ List.mem_cons_self)
  have nn:=top.nn
  refine ⟨C_Machine,o.dx,_,hx3,T.Machine.cl,T.n_Machine_stacked,_,Z0S,o.sk,rfl,_,SqL.of c1,_,Z2d ss3 _,ag,rfl,_,g1,rfl,_,_,rfl,_,_,rfl,_,_,rfl,_,_,rfl,rfl,fun p hp=>?_⟩
  have s1:=Z0i hp (.tup [vv])
  refine ⟨tg,p,_,_,rfl,rfl,g3.same s1,SqT.of Z0e,by rw [g8,sizeLine_eq]; show _+1≤_; omega,fun p3 H3 s3 hp3 p4 hp4=>?_⟩
  have s4:=Z0i hp4 (.tup [.int g.n,.int g.pc,.ref sg,.ref p3])
  have S:=s1.trans (s3.trans s4)
  have M4:=M2.same S
  obtain ⟨e5,hx5,_⟩:=M4.ins
  have c1':=S _ _ c1
  refine ⟨C_Machine,o.dx,_,hx5,T.Machine.cl,T.n_Machine_stacked,_,Z0S,o.sk,rfl,_,c1',_,Z9C (by simp),?_⟩
  rw [Z5s]
  have hf:FrV K (upd H3 p4 (.tup [.int g.n,.int g.pc,.ref sg,.ref p3])) (.ref p4) { g with st:=v::g.st }:=
   ⟨p4,rfl,⟨.int g.n,g.pc,G.sl,G.st++[vv]⟩,⟨sg,p3,SqT.of Z0e,g2.same S,hp3.same s4⟩,rfl,rfl,AtVs.t g6 (Same.t S),by
    show AtVs K _ (G.st++[vv]) (v::g.st).reverse
    rw [List.reverse_cons]
    exact Pd.app (AtVs.t g7 (Same.t S)) (.cons (AtV.t (AtV.t hv K2.t) (Same.t S)) .nil)⟩
  obtain ⟨M5,k5⟩:=M4.frames (fr:={ g with st:=v::g.st }::gs) (ss':=ss3++[.ref p4]) (by
   rw [List.reverse_cons]
   exact Pd.app (Pd.imp (fun _ _ q=>FrV.t q (Same.t S)) c2) (.cons hf .nil))
  rw [Z9k hrow hst] at q
  exact q o _ rfl (K2.trans ((M2.keepS S).trans k5)) M5
end
end K65
end
section
namespace K65
open PySem L2 MM
open Mach (AV AFr Row Sg Blk MS PL Mem getP updM seen Z0K Bd)
seal L2.PE L2.PA L2.PT L2.PS L2.PSs L2.PG L2.PGs L2.PI L2.PW
section
variable {C_Places C_Machine D_ROW_SIGNS:Addr} {P:Program} {w:World} {K:W.Frag} {mg:Str→Option Value} {base:Heap}
theorem J0a (T:Txt P w K mg C_Places C_Machine D_ROW_SIGNS) (h_Machine_end:HasM P w K mg base 1 C_Machine "end" ["self","told"] (Z7o C_Machine C_Places K)) (h_uppermost:Has P w K mg base 1 "uppermost" ["frame","many"] (Z9Z K)) (h_entered:Has P w K mg base 1 "entered" ["block","number","values"] (Z3J K)):HasM P w K mg base 2 C_Machine "enter" ["self","block","many","frame"] (Z5K C_Machine C_Places K):=by
 refine HasM.of T.m_Machine_enter sc_Machine_enter (fun _ _ _ _ _ _ us hl=>el4 us hl fun _ _ _ _=>rfl) (fun vs H Q E h=>?_) (fun f cdv A outer s H vs Q E hr h=>?_)
 ·obtain ⟨ex,o,P,s,a,block,many,n,f,fs,s',rfl,_⟩:=h
  rfl
 obtain ⟨ex,o,P',s',a,block,many,n,fr,fs,s2,rfl,M,top,hrow,q⟩:=h
 refine ⟨_,(Z0d (Z0L (Z0m J5Q (Z0H (pvF 0) rfl) (Z0H (pvF 0) rfl) (Z0o _)) (Z0d (Z0p (Z1a (pvF 0) T.Machine.cl h_Machine_end hr (by decide) (Z0a (Z0A (Z0a Z0g Z0b)) Z0b)))
  (Z0f Z6w)) Z0C)
  (Z0d (Z2U (pvF 0) Z0c Z5m)
  (Z0d (Z0L (Z0m Z8w (Z0q Z0l rfl T.z_len Z0O (Z0a (Z0H (pvF 0) rfl) Z0b)) (Z5D T.c_MOST_WITHIN rfl) (Z0o _)) (Z0d (Z0p (Z1a (pvF 0) T.Machine.cl h_Machine_end hr (by decide) (Z0a (Z0A (Z0a Z0g Z0b)) Z0b)))
  (Z0f Z6w)) Z0C)
  (Z0d (Z1x (pvF 3) (Z1Z (n:=4) rfl (Z0B (Z0v (i:=4) sc_Machine_enter.nd rfl (Or.inl rfl)) (Z0B (Z0v (i:=5) sc_Machine_enter.nd rfl (Or.inl rfl)) (Z0B (Z0v (i:=6) sc_Machine_enter.nd rfl (Or.inl rfl)) (Z0B (Z0v (i:=7) sc_Machine_enter.nd rfl (Or.inl rfl)) Z1Y))))))
  (Z0d (Z1x (Z0A (Z0a (pvF 4) (Z0a (Z0k Z0N (pvF 5) Z0c) (Z0a (pvF 6) (Z0a (Z1i (r:=rSlA K) Z2y (pvF 7) Z1D (Z1I (Z0k Z2r (Z0q Z0l rfl T.z_len Z0O (Z0a (pvF 7) Z0b)) (pvF 2)))) Z0b))))) (Z3t (Z0H (pvF 0) rfl) (Z2L Z1N Z0c) Z1M))
  (Z0f (Z0p (Z1h PySem.F.plainAttrs_list PySem.F.slot_list_append PySem.F.type_list_append Z0z (Z0H (pvF 0) rfl) (Z0a (Z0x h_entered hr (by decide) rfl (Z0a (Z0u (r:=Z0M K) Z0r (Z0H (pvF 0) rfl) (pvF 1) (fun _ _=>rfl)) (Z0a (pvF 1) (Z0a (Z0x h_uppermost hr (by decide) rfl (Z0a (pvF 3) (Z0a (pvF 2) Z0b))) Z0b)))) Z0b))))))))),?_⟩
 refine seq6 fun u5 hu5 u4 hu4 u3 hu3 u2 hu2 u1 hu1=>?_
 walk_at "rd"
 obtain ⟨e0,hx,he0⟩:=M.ins
 refine ⟨C_Machine,o.dx,_,hx,T.Machine.cl,T.n_Machine_call_count,_,Z4Z,C_Machine,o.dx,_,hx,T.Machine.cl,T.n_Machine_most,_,J2J,_,rfl,_,rfl,?_⟩
 unfold Mach.enter at hrow
 by_cases hd:P'.most≤s'.calls
 ·rw [if_pos (show (P'.most:Int)≤s'.calls by omega)]
  rw [if_pos hd] at hrow
  cases hrow
  exact ⟨o.dx,_,hx,rfl,fun p hp=>⟨ex,o,P',s',p,.dry,rfl,M.same (Z0i hp _),SqT.of Z0e,fun q' H5 k5 M5=>q { o with sk:=q' } _ rfl ((M.keepS (Z0i hp _)).trans k5) M5⟩⟩
 rw [if_neg (show ¬ (P'.most:Int)≤s'.calls by omega)]
 rw [if_neg hd] at hrow
 subst hu1
 walk_at "rd"
 refine ⟨C_Machine,o.dx,_,hx,T.Machine.cl,T.n_Machine_call_count,_,Z4Z,_,rfl,o.dx,_,hx,Z4a,?_⟩
 rw [show ((s'.calls:Int)+1)=((s'.calls+1:Nat):Int) from rfl,J0q]
 obtain ⟨M1,k1⟩:=M.set (s':={ s' with calls:=s'.calls+1 }) (e:=e0) rfl rfl (Nat.le_refl _) rfl he0
 change MAt C_Machine C_Places K ex o P' { s' with calls:=s'.calls+1 } (upd H o.x (.ins C_Machine o.dx (fsM o P' e0 (s'.calls+1) s'.looks s'.hits s'.rows))) at M1
 change Keep ex H (upd H o.x (.ins C_Machine o.dx (fsM o P' e0 (s'.calls+1) s'.looks s'.hits s'.rows))) at k1
 generalize upd H o.x (.ins C_Machine o.dx (fsM o P' e0 (s'.calls+1) s'.looks s'.hits s'.rows))=H1 at *
 obtain ⟨ss,m1,m2⟩:=M1.stk
 obtain ⟨e1,hx1,he1⟩:=M1.ins
 have ln:ss.length=fs.length+1:=by rw [Paired.length m2,List.length_reverse]; show s'.frames.length=_; rw [top.fr]; rfl
 subst hu2
 walk_at "rd"
 refine ⟨C_Machine,o.dx,_,hx1,T.Machine.cl,T.n_Machine_stacked,_,Z0S,o.sk,rfl,ss,.inl (SqL.of m1),?_⟩
 by_cases hdp:40 < fs.length+1
 ·rw [if_pos (show (40:Int) < ss.length by omega)]
  rw [if_pos hdp] at hrow
  cases hrow
  exact ⟨o.dx,_,hx1,rfl,fun p hp=>⟨ex,o,P',_,p,.deep,rfl,M1.same (Z0i hp _),SqT.of Z0e,fun q' H5 k5 M5=>q { o with sk:=q' } _ rfl (k1.trans ((M1.keepS (Z0i hp _)).trans k5)) M5⟩⟩
 rw [if_neg (show ¬ (40:Int) < ss.length by omega)]
 rw [if_neg hdp] at hrow
 obtain ⟨F,sa,ta,h1,h2,h3,f1,f2,hsl,hstk,l1,l2⟩:=FrIs.st (top.at_.t k1.t)
 have nn:=top.nn
 have lf:=top.sz.fr' top.fr
 have hm:many≤fr.st.length:=by
  by_cases hm:many≤fr.st.length
  ·exact hm
  ·rw [if_neg hm] at hrow; cases hrow
 rw [if_pos hm] at hrow
 obtain ⟨b,hb,hrow⟩:=Option.bind_eq_some_iff.mp hrow
 have hbs:many≤b.size:=by
  by_cases hbs:many≤b.size
  ·exact hbs
  ·rw [if_neg hbs] at hrow; cases hrow
 rw [if_pos hbs] at hrow
 have hrow:=Option.some.inj hrow
 subst hrow
 subst hu3
 walk_at "rd"
 refine ⟨_,h1,rfl,_,_,rfl,_,_,rfl,_,_,rfl,_,_,rfl,rfl,?_⟩
 subst hu4
 walk_at "rd"
 refine ⟨_,.inr h3,ta,_,rfl,h3,fun p1 H2 s2 hp1 p2 hp2=>?_⟩
 rw [show ((F.st.length:Int) - (many:Int))=((F.st.length - many:Nat):Int) by omega,Z7B] at hp1
 have s3:=Z0i hp2 (.tup [.int fr.n,.int ((fr.pc:Int)+1),.ref sa,.ref p1])
 have S3:=s2.trans s3
 have M3:=M1.same S3
 obtain ⟨ss3,a3,c1,c2,c3⟩:=M3.top top.fr
 obtain ⟨e3,hx3,_⟩:=M3.ins
 refine ⟨C_Machine,o.dx,_,hx3,T.Machine.cl,T.n_Machine_stacked,_,Z0S,o.sk,rfl,_,c1,_,Z9C (by simp),?_⟩
 rw [Z5s]
 have hf3:FrV K (upd H2 p2 (.tup [.int fr.n,.int ((fr.pc:Int)+1),.ref sa,.ref p1])) (.ref p2) { fr with pc:=fr.pc+1,st:=fr.st.drop many }:=
  ⟨p2,rfl,⟨.int fr.n,(fr.pc:Int)+1,F.sl,F.st.take (F.st.length - many)⟩,⟨sa,p1,SqT.of Z0e,h2.same S3,hp1.same s3⟩,rfl,rfl,AtVs.t hsl (Same.t S3),by
   show AtVs K _ (F.st.take (F.st.length - many)) (fr.st.drop many).reverse
   rw [List.reverse_drop,l1]
   exact Pd.take _ (AtVs.t hstk (Same.t S3))⟩
 obtain ⟨M4,k4⟩:=M3.frames (fr:={ fr with pc:=fr.pc+1,st:=fr.st.drop many }::fs) (ss':=ss3++[.ref p2]) (by
  rw [List.reverse_cons]
  exact Pd.app c2 (.cons hf3 .nil))
 have fr4:FrIs K _ a fr:=((top.at_.t k1.t).t (Same.t S3)).t k4.t
 have K4:=k1.trans ((M1.keepS S3).trans k4)
 have sk4:upd (upd H2 p2 (.tup [.int fr.n,.int ((fr.pc:Int)+1),.ref sa,.ref p1])) o.sk (.lst (ss3++[.ref p2])) o.sk=some (.lst (ss3++[.ref p2])):=Z0e
 have pr4:Paired (FrV K (upd (upd H2 p2 (.tup [.int fr.n,.int ((fr.pc:Int)+1),.ref sa,.ref p1])) o.sk (.lst (ss3++[.ref p2])))) (ss3++[.ref p2]) (fs.reverse++[{ fr with pc:=fr.pc+1,st:=fr.st.drop many }]):=Pd.app (Pd.imp (fun _ _ q=>FrV.t q k4.t) c2) (.cons (FrV.t hf3 k4.t) .nil)
 clear k4 M3 c1 c2 c3 hx3 hf3 hp1 hp2 s2 s3 S3
 generalize upd (upd H2 p2 (.tup [.int fr.n,.int ((fr.pc:Int)+1),.ref sa,.ref p1])) o.sk (.lst (ss3++[.ref p2]))=H4 at *
 obtain ⟨e4,hx4,_⟩:=M4.ins
 obtain ⟨bs,B1,B2⟩:=M4.pr.bl
 obtain ⟨bv,hbv,ba,ra,rs,rfl,B3,B4,B5⟩:=Pd.at B2 hb
 have bsz:=top.psz.bk b (List.mem_of_getElem? hb)
 obtain ⟨F4,g1,g2,g3,g4,g5⟩:=fr4
 have lF4:F4.st.length=fr.st.length:=by rw [Paired.length g5,List.length_reverse]
 subst hu5
 walk_at "rd"
 refine ⟨C_Machine,o.dx,_,hx4,T.Machine.cl,T.n_Machine_stacked,_,Z0S,.inl ⟨rfl,_,SqL.of sk4⟩,C_Machine,o.dx,_,hx4,T.Machine.cl,T.n_Machine_blocks,_,Z5Q,o.B,rfl,bs,B1,_,Z0P hbv,?_⟩
 refine ⟨a,many,F4,rfl,g1,by omega,by omega,fun pu H5 s5 hpu=>?_⟩
 have lxs:(F4.st.drop (F4.st.length - many)).length=many:=by rw [List.length_drop]; omega
 refine ⟨ba,pu,_,_,_,b.size,_,rfl,B3.same s5,.inr hpu,by omega,by omega,fun p6 H6 s6 hf6=>?_⟩
 have S6:=s5.trans s6
 have M6:=M4.same S6
 refine ⟨o.sk,rfl,_,S6 _ _ sk4,?_,?_⟩
 ·have:=Paired.length pr4
  rw [this,List.length_append,List.length_reverse]
  show fs.length+1 < _
  omega
 have hf6':FrV K H6 (.ref p6) ⟨block,0,(fr.st.take many).reverse++List.replicate (b.size - many) .non,[]⟩:=by
  refine ⟨p6,rfl,_,hf6,rfl,rfl,?_,.nil⟩
  show AtVs K H6 (F4.st.drop (F4.st.length - many)++List.replicate (b.size - (F4.st.drop (F4.st.length - many)).length) V.non) _
  rw [lxs,List.reverse_take,← lF4]
  refine Pd.app (Pd.drop _ (AtVs.t g5 (Same.t S6))) ?_
  have:∀ k,AtVs K H6 (List.replicate k V.non) (List.replicate k AV.non):=fun k=>by
   induction k with
   | zero=>exact .nil
   | succ k ih=>exact .cons rfl ih
  exact this _
 obtain ⟨M7,k7⟩:=M6.frames (fr:=⟨block,0,(fr.st.take many).reverse++List.replicate (b.size - many) .non,[]⟩::{ fr with pc:=fr.pc+1,st:=fr.st.drop many }::fs) (ss':=ss3++[.ref p2]++[.ref p6]) (by
  rw [List.reverse_cons,List.reverse_cons]
  exact Pd.app (Pd.imp (fun _ _ q=>FrV.t q (Same.t S6)) pr4) (.cons hf6' .nil))
 exact q o _ rfl (K4.trans ((M4.keepS S6).trans k7)) M7
end
end K65
end
section
namespace K65
open PySem L2 MM
open Mach (AV AFr Row Sg Blk MS PL Mem getP updM seen Z0K Bd)
seal L2.PE L2.PA L2.PT L2.PS L2.PSs L2.PG L2.PGs L2.PI L2.PW
section
variable {C_Places C_Machine D_ROW_SIGNS:Addr} {P:Program} {w:World} {K:W.Frag} {mg:Str→Option Value} {base:Heap}
theorem Z9K (T:Txt P w K mg C_Places C_Machine D_ROW_SIGNS) (h_uppermost:Has P w K mg base 1 "uppermost" ["frame","many"] (Z9Z K)) (h_Places_asked:HasM P w K mg base 2 C_Places "asked" ["self","site","house"] (Z7i C_Places)) (h_Places_put:HasM P w K mg base 2 C_Places "put" ["self","site","house","block"] (J1o C_Places)):HasM P w K mg base 3 C_Machine "found_block" ["self","site","word","many","frame"] (Z5P C_Machine C_Places K):=by
 refine HasM.of T.m_Machine_found_block sc_Machine_found_block (fun _ _ _ _ _ _ us hl=>el5 us hl fun _ _ _ _ _=>rfl) (fun vs H Q E h=>?_) (fun f cdv A outer s H vs Q E hr h=>?_)
 ·obtain ⟨ex,o,P,s,a,site,word,many,n,k,f,fs,rest,t,b,s',rfl,_⟩:=h
  rfl
 obtain ⟨ex,o,P',s',a,site,word,many,n,k,fr,fs,rest,t,b,s2,rfl,M,top,hst,lm,hmk,hrow,q⟩:=h
 refine ⟨_,(Z0d (Z0I (i:=5) sc_Machine_found_block.nd rfl (Or.inl rfl) (Z0u (r:=Z0M K) Z0r (Z0u (r:=Z0U K) Z0w (Z0H (pvF 0) rfl) (Z0u (r:=Z0M K) Z0r (Z0u (r:=Z0M K) Z0r (Z0x h_uppermost hr (by decide) rfl (Z0a (pvF 4) (Z0a (pvF 3) Z0b))) Z0c (fun _ _=>rfl)) Z0c (fun _ _=>rfl)) (fun _ _=>rfl)) Z0c (fun _ _=>rfl)))
  (Z0d (Z0L (Z3d (Z0H (pvF 0) rfl)) (Z0d (Z0I (i:=6) sc_Machine_found_block.nd rfl (Or.inl rfl) (Z1a (Z0H (pvF 0) rfl) T.Places.cl h_Places_asked hr (by decide) (Z0a (pvF 1) (Z0a (pvF 5) Z0b))))
  (Z0f (Z0L (Z0m Z5f (pvF 6) Z1E (Z0o _)) (Z0d (Z2U (pvF 0) Z0c Z5m)
  (Z0f (Z0y (pvF 6)))) Z0C))) Z0C)
  (Z0d (Z2U (pvF 0) Z0c Z5m)
  (Z0d (Z0I (i:=7) sc_Machine_found_block.nd rfl (Or.inl rfl) (Z0u (r:=Z0M K) Z0r (Z0u (r:=Z0M K) Z0r (Z0H (pvF 0) rfl) (pvF 5) (fun _ _=>rfl)) (pvF 2) (fun _ _=>rfl)))
  (Z0d (Z0L (Z3d (Z0H (pvF 0) rfl)) (Z0f (Z0p (Z1a (Z0H (pvF 0) rfl) T.Places.cl h_Places_put hr (by decide) (Z0a (pvF 1) (Z0a (pvF 5) (Z0a (pvF 7) Z0b)))))) Z0C)
  (Z0f (Z0y (pvF 7)))))))),?_⟩
 refine seq6 fun u5 hu5 u4 hu4 u3 hu3 u2 hu2 u1 hu1=>?_
 walk_at "rd"
 obtain ⟨e0,hx,he0⟩:=M.ins
 obtain ⟨F,g1,g2,g3,g4,g5⟩:=top.at_
 have lF:F.st.length=fr.st.length:=by rw [Paired.length g5,List.length_reverse]
 have nn:=top.nn
 have lf:=top.sz.fr' top.fr
 refine ⟨C_Machine,o.dx,_,hx,T.Machine.cl,T.n_Machine_made,_,Z2O,a,many,F,rfl,g1,by omega,by omega,fun pu H1 s1 hpu=>?_⟩
 have hxs:AtVs K H1 (F.st.drop (F.st.length - many)) (.th k::rest):=by
  rw [← hst,List.reverse_take,← lF]
  exact Pd.drop _ (AtVs.t g5 (Same.t s1))
 have M1:=M.same s1
 have k1:=M.keepS s1
 generalize F.st.drop (F.st.length - many)=xs at *
 cases hxs with
 | cons hth hrest=>
 obtain ⟨th,rfl,hth,_⟩:=hth
 obtain ⟨ms,m1,m2⟩:=M1.mad
 obtain ⟨y,hy,ye,ia,inner,rfl,q1,q2,q3⟩:=Pd.at m2 hmk
 obtain ⟨e1,hx1,he1⟩:=M1.ins
 refine ⟨pu,rfl,_,hpu,_,ix0,th,rfl,_,SqT.of hth,_,ix1,o.md,rfl,k,rfl,ms,SqL.of m1,_,Z0P hy,ye,rfl,_,q1,_,ix0,?_⟩
 subst hu1
 walk_at "rd"
 refine ⟨C_Machine,o.dx,_,hx1,T.Machine.cl,T.n_Machine_remembers,_,Z8q,_,rfl,?_⟩
 cases hrem:P'.rem with
 | false=>
  rw [if_neg (by decide)]
  subst hu2
  walk_at "rd"
  unfold Mach.found at hrow
  simp only [hrem,Bool.false_eq_true,if_false] at hrow
  obtain ⟨b',hb',e2⟩:=Option.map_eq_some_iff.mp hrow
  obtain ⟨rfl,rfl⟩:=Prod.mk.inj e2
  obtain ⟨tl,htl,hb2⟩:=Option.bind_eq_some_iff.mp hb'
  obtain ⟨M2,k2⟩:=M1.set (s':={ s' with looks:=s'.looks+1 }) (e:=e1) rfl rfl (by show _≤s'.looks+1+s'.hits; omega) rfl he1
  refine ⟨C_Machine,o.dx,_,hx1,T.Machine.cl,T.n_Machine_look_count,_,Z5q,_,rfl,o.dx,_,hx1,Z4a,?_⟩
  rw [show ((s'.looks:Int)+1)=((s'.looks+1:Nat):Int) from rfl,Z6H]
  change MAt C_Machine C_Places K ex o P' { s' with looks:=s'.looks+1 } (upd H1 o.x (.ins C_Machine o.dx (fsM o P' e1 s'.calls (s'.looks+1) s'.hits s'.rows))) at M2
  change Keep ex H1 (upd H1 o.x (.ins C_Machine o.dx (fsM o P' e1 s'.calls (s'.looks+1) s'.hits s'.rows))) at k2
  generalize upd H1 o.x (.ins C_Machine o.dx (fsM o P' e1 s'.calls (s'.looks+1) s'.hits s'.rows))=H2 at *
  obtain ⟨ts,T1,T2⟩:=M2.pr.tb
  obtain ⟨tv,htv,ta,rfl,T3⟩:=Pd.at T2 htl
  obtain ⟨e2,hx2,he2⟩:=M2.ins
  have hw:(tl.map tabV)[word]?=some (.int b'):=by
   rw [List.getElem?_map]
   obtain ⟨z,hz⟩:∃ z,tl[word]?=some z:=by cases h:tl[word]? with
    | none=>rw [h] at hb2; cases hb2
    | some z=>exact ⟨z,rfl⟩
   rw [hz] at hb2 ⊢
   cases hb2; rfl
  subst hu3
  walk_at "rd"
  refine ⟨C_Machine,o.dx,_,hx2,T.Machine.cl,T.n_Machine_house_tables,_,Z5H,o.TT,rfl,ts,T1,_,Z0P htv,ta,rfl,_,T3,_,Z0P hw,?_⟩
  subst hu4
  walk_at "rd"
  refine ⟨C_Machine,o.dx,_,hx2,T.Machine.cl,T.n_Machine_remembers,_,Z8q,_,rfl,?_⟩
  rw [hrem,if_neg (by decide)]
  subst hu5
  walk_at "rd"
  exact q H2 (k1.trans k2) M2
 | true=>
  rw [if_pos rfl]
  have rep1:=M1.rep
  have plc1:=M1.plc
  refine ⟨C_Machine,o.dx,_,hx1,T.Machine.cl,T.n_Machine_places,_,Z5W,o.pl,rfl,o.dp,_,M1.plc,rfl,?_⟩
  have lh:=top.sz.lh
  refine ⟨o.pl,o.dp,o.pd,site,t.1,_,_,s'.mem,rfl,M1.plc,M1.rep,M1.hid,by omega,(top.sz.mm site).1,fun e H3 s3=>?_,fun p r e H3 s3 r3=>?_⟩
  ·try dsimp only
   rw [if_neg (by simp)]
   subst hu2
   walk_at "rd"
   have M3:=M1.same s3
   have k3:=k1.trans (M1.keepS s3)
   obtain ⟨e3,hx3,he3⟩:=M3.ins
   unfold Mach.found at hrow
   simp only [hrem,if_true] at hrow
   rw [e] at hrow
   simp only at hrow
   obtain ⟨b',hb',e2⟩:=Option.map_eq_some_iff.mp hrow
   obtain ⟨rfl,rfl⟩:=Prod.mk.inj e2
   obtain ⟨tl,htl,hb2⟩:=Option.bind_eq_some_iff.mp hb'
   obtain ⟨M4,k4⟩:=M3.set (s':={ s' with looks:=s'.looks+1 }) (e:=e3) rfl rfl (by show _≤s'.looks+1+s'.hits; omega) rfl he3
   have rep4:=M3.rep' (.ins C_Machine o.dx (fsM o P' e3 s'.calls (s'.looks+1) s'.hits s'.rows))
   refine ⟨C_Machine,o.dx,_,hx3,T.Machine.cl,T.n_Machine_look_count,_,Z5q,_,rfl,o.dx,_,hx3,Z4a,?_⟩
   rw [show ((s'.looks:Int)+1)=((s'.looks+1:Nat):Int) from rfl,Z6H]
   change MAt C_Machine C_Places K ex o P' { s' with looks:=s'.looks+1 } (upd H3 o.x (.ins C_Machine o.dx (fsM o P' e3 s'.calls (s'.looks+1) s'.hits s'.rows))) at M4
   change Keep ex H3 (upd H3 o.x (.ins C_Machine o.dx (fsM o P' e3 s'.calls (s'.looks+1) s'.hits s'.rows))) at k4
   generalize upd H3 o.x (.ins C_Machine o.dx (fsM o P' e3 s'.calls (s'.looks+1) s'.hits s'.rows))=H4 at *
   obtain ⟨ts,T1,T2⟩:=M4.pr.tb
   obtain ⟨tv,htv,ta,rfl,T3⟩:=Pd.at T2 htl
   obtain ⟨e4,hx4,he4⟩:=M4.ins
   have hw:(tl.map tabV)[word]?=some (.int b'):=by
    rw [List.getElem?_map]
    obtain ⟨z,hz⟩:∃ z,tl[word]?=some z:=by cases h:tl[word]? with
     | none=>rw [h] at hb2; cases hb2
     | some z=>exact ⟨z,rfl⟩
    rw [hz] at hb2 ⊢
    cases hb2; rfl
   subst hu3
   walk_at "rd"
   refine ⟨C_Machine,o.dx,_,hx4,T.Machine.cl,T.n_Machine_house_tables,_,Z5H,o.TT,rfl,ts,T1,_,Z0P htv,ta,rfl,_,T3,_,Z0P hw,?_⟩
   subst hu4
   walk_at "rd"
   refine ⟨C_Machine,o.dx,_,hx4,T.Machine.cl,T.n_Machine_remembers,_,Z8q,_,rfl,?_⟩
   rw [hrem,if_pos rfl]
   refine ⟨C_Machine,o.dx,_,hx4,T.Machine.cl,T.n_Machine_places,_,Z5W,o.pl,rfl,o.dp,_,M4.plc,rfl,?_⟩
   refine ⟨o.pl,o.dp,o.pd,site,t.1,b',_,_,s'.mem,rfl,M4.plc,rep4,M4.hid,by omega,(top.sz.mm site).1,fun H5 s5 r5=>?_⟩
   subst hu5
   walk_at "rd"
   obtain ⟨M5,k5⟩:=M4.mem s5 r5 (by show _≤s'.looks+1+s'.hits; omega)
   exact q H5 (k3.trans (k4.trans k5)) M5
  ·try dsimp only
   rw [if_pos (by simp)]
   obtain ⟨kvs,hk⟩:=M1.pdk
   have hx3:=s3 _ _ (Z1l hx1 hk (fun z=>by cases z)) hx1
   unfold Mach.found at hrow
   simp only [hrem,if_true] at hrow
   rw [e] at hrow
   simp only at hrow
   obtain ⟨rfl,rfl⟩:=Prod.mk.inj (Option.some.inj hrow)
   have p0:0≤p.2:=(top.sz.mm site).2 p (List.mem_filter.mp (show p∈seen (getP s'.mem site) t.1 by rw [e]; exact List.mem_cons_self)).1
   refine ⟨C_Machine,o.dx,_,hx3,T.Machine.cl,T.n_Machine_hit_count,_,Z8H,_,rfl,o.dx,_,hx3,Z4a,?_⟩
   rw [show ((s'.hits:Int)+1)=((s'.hits+1:Nat):Int) from rfl,J2p]
   rw [e] at r3
   obtain ⟨M4,k4⟩:=M1.mem2 (s':={ s' with hits:=s'.hits+1,mem:=updM s'.mem site (p::r++Z0K (getP s'.mem site) t.1) }) (e:=e1) s3 r3 rfl rfl (by show s'.looks+(s'.hits+1)=_; omega) he1
   rw [show p.2=((p.2.toNat:Nat):Int) by omega]
   exact q _ (k1.trans k4) M4
end
end K65
end
section
namespace K65
open PySem L2 MM
open Mach (AV AFr Row Sg Blk MS PL Mem getP updM seen Z0K Bd)
seal L2.PE L2.PA L2.PT L2.PS L2.PSs L2.PG L2.PGs L2.PI L2.PW
theorem Z9z (sl:List V) (i:Nat) (v:V) (h:i < sl.length):sl.set i v=sl.take i++[v]++sl.drop (i+1):=by
 rw [List.set_eq_take_append_cons_drop,if_pos h,List.append_assoc]
 rfl
theorem J2P {P:Mach.Prog} {s s2:MS} {f:AFr} {fs:List AFr} {pl:Nat} (h:Mach.rowM P s f fs (.put pl)=some s2):∃ v k st t,f.st=v::.th k::st∧s.made[k]?=some t∧pl < t.2.length∧s2={ s with made:=s.made.set k (t.1,t.2.set pl v),frames:={ f with pc:=f.pc+1,st:=v::st }::fs }:=by
 simp only [Mach.rowM] at h
 split at h
 ·rename_i v k st e
  obtain ⟨t,ht,h⟩:=Option.bind_eq_some_iff.mp h
  split at h
  ·rename_i hl
   exact ⟨v,k,st,t,e,ht,hl,(Option.some.inj h).symm⟩
  ·cases h
 ·cases h
theorem J0E {P:Mach.Prog} {s s2:MS} {f:AFr} {fs:List AFr} {hh m:Nat} (h:Mach.rowM P s f fs (.make hh m)=some s2):m≤f.st.length∧s2={ s with made:=s.made++[(hh,(f.st.take m).reverse)],frames:={ f with pc:=f.pc+1,st:=.th s.made.length::f.st.drop m }::fs }:=by
 simp only [Mach.rowM] at h
 split at h
 ·rename_i hm
  exact ⟨hm,(Option.some.inj h).symm⟩
 ·cases h
theorem J1V {P:Mach.Prog} {s s2:MS} {f:AFr} {fs:List AFr} {row:Row} (hi:Z9L row=true) (h:Mach.rowM P s f fs row=some s2):∃ o,Mach.own f s.made row=some o∧((∃ f',o=.inl f'∧s2={ s with frames:=f'::fs })∨∃ e,o=.inr e∧s2=Mach.ends s e):=by
 have key:∀ {o:Option (AFr ⊕ Mach.End)},(o.map fun o=>match o with | .inl f'=>({ s with frames:=f'::fs }:MS) | .inr e=>Mach.ends s e)=some s2→∃ x,o=some x∧((∃ f',x=.inl f'∧s2={ s with frames:=f'::fs })∨∃ e,x=.inr e∧s2=Mach.ends s e):=fun h=>by
  obtain ⟨x,hx,e⟩:=Option.map_eq_some_iff.mp h
  cases x with
  | inl g=>exact ⟨_,hx,.inl ⟨g,rfl,e.symm⟩⟩
  | inr g=>exact ⟨_,hx,.inr ⟨g,rfl,e.symm⟩⟩
 cases row <;> first | (cases hi; done) | exact key h
theorem Z8d {K:W.Frag} {vs:List V} {H:Hp} {Q Q':VK} {E:XK} (h:Z4L K vs H Q' E) (i:∀ v H',Q' v H'→Q v H'):Z4L K vs H Q E:=by
 obtain ⟨r,a,tl,nm,args,F,e,h1,h2,h3,h4,h5⟩:=h
 refine ⟨r,a,tl,nm,args,F,e,h1,h2,h3,h4,?_⟩
 rcases h5 with ⟨sg,st,x,y,rr,b1,b2,b3,b4,b5⟩ | ⟨F',b1,b2⟩
 ·exact .inl ⟨sg,st,x,y,rr,b1,b2,b3,fun why p q' H' c1 c2 c3 c4=>i _ _ (b4 why p q' H' c1 c2 c3 c4),fun v p f' H' c1 c2 c3 c4=>i _ _ (b5 v p f' H' c1 c2 c3 c4)⟩
 ·exact .inr ⟨F',b1,fun p f' H' c1 c2 c3=>i _ _ (b2 p f' H' c1 c2 c3)⟩
section
variable {C_Places C_Machine D_ROW_SIGNS:Addr} {P:Program} {w:World} {K:W.Frag} {mg:Str→Option Value} {base:Heap}
theorem J2g (T:Txt P w K mg C_Places C_Machine D_ROW_SIGNS) (h_uppermost:Has P w K mg base 1 "uppermost" ["frame","many"] (Z9Z K)) (h_behind:Has P w K mg base 1 "behind" ["frame","many","value"] (Z2N K)):HasM P w K mg base 2 C_Machine "set_field" ["self","place","frame"] (Z8u C_Machine C_Places K):=by
 refine HasM.of T.m_Machine_set_field sc_Machine_set_field (fun _ _ _ _ _ _ us hl=>el3 us hl fun _ _ _=>rfl) (fun vs H Q E h=>?_) (fun f cdv A outer s H vs Q E hr h=>?_)
 ·obtain ⟨ex,o,P,s,a,pl,n,f,fs,s',rfl,_⟩:=h
  rfl
 obtain ⟨ex,o,P',s',a,pl,n,fr,fs,s2,rfl,M,top,hrow,q⟩:=h
 refine ⟨_,(Z0d (Z1x (Z0x h_uppermost hr (by decide) rfl (Z0a (pvF 2) (Z0a Z0c Z0b))) (Z1Z (n:=2) rfl (Z0B (Z0v (i:=3) sc_Machine_set_field.nd rfl (Or.inl rfl)) (Z0B (Z0v (i:=4) sc_Machine_set_field.nd rfl (Or.inl rfl)) Z1Y))))
  (Z0d (Z1x (Z0u (r:=Z0U K) Z0w (Z0H (pvF 0) rfl) (Z0u (r:=Z0M K) Z0r (pvF 3) Z0c (fun _ _=>rfl)) (fun _ _=>rfl)) (Z1Z (n:=2) rfl (Z0B (Z0v (i:=5) sc_Machine_set_field.nd rfl (Or.inl rfl)) (Z0B (Z0v (i:=6) sc_Machine_set_field.nd rfl (Or.inl rfl)) Z1Y))))
  (Z0d (Z1x (Z0A (Z0a (pvF 5) (Z0a (Z0k (r:=Z5A K) Z3o (Z0k (r:=Z5A K) Z3o (Z1i (r:=rSlA K) Z2y (pvF 6) Z1D (Z1I (pvF 1))) (Z0A (Z0a (pvF 4) Z0b))) (Z1i (r:=rSlA K) Z2y (pvF 6) (Z1I (Z0k Z0N (pvF 1) Z0c)) Z1D)) Z0b))) (Z3t (Z0H (pvF 0) rfl) (Z0u (r:=Z0M K) Z0r (pvF 3) Z0c (fun _ _=>rfl)) Z1M))
  (Z0f (Z1x (Z0x h_behind hr (by decide) rfl (Z0a (pvF 2) (Z0a Z0c (Z0a (pvF 4) Z0b)))) (Z3t (Z0H (pvF 0) rfl) (Z2L Z1N Z0c) Z1M)))))),?_⟩
 refine seq4 fun u3 hu3 u2 hu2 u1 hu1=>?_
 walk_at "rd"
 obtain ⟨v,k,st,t,hst,hmk,hpl,rfl⟩:=J2P hrow
 obtain ⟨F,g1,g2,g3,g4,g5⟩:=top.at_
 have lF:F.st.length=fr.st.length:=by rw [Paired.length g5,List.length_reverse]
 have nn:=top.nn
 have lf:=top.sz.fr' top.fr
 have l2:fr.st.length=st.length+2:=by rw [hst]; rfl
 refine ⟨a,2,F,rfl,g1,by omega,by omega,fun pu H1 s1 hpu=>?_⟩
 have M1:=M.same s1
 have g5':=AtVs.t g5 (Same.t s1)
 rw [hst,List.reverse_cons,List.reverse_cons] at g5'
 obtain ⟨sv,vv,e1,g6,hv⟩:=Pd.snoc_inv g5'
 obtain ⟨su,tv,e2,g7,hth⟩:=Pd.snoc_inv g6
 subst e2
 have ed:F.st.drop (F.st.length - 2)=[tv,vv]:=by
  rw [e1,List.length_append,List.length_append]
  show List.drop (su.length+1+1 - 2) _=_
  rw [show su.length+1+1 - 2=su.length by omega,List.append_assoc,List.drop_left' rfl]
  rfl
 rw [ed] at hpu
 obtain ⟨th,rfl,hth,_⟩:=hth
 obtain ⟨ms,m1,m2⟩:=M1.mad
 obtain ⟨y,hy,ye,ia,inner,rfl,q1,q2,q3⟩:=Pd.at m2 hmk
 obtain ⟨e3,hx1,he1⟩:=M1.ins
 have lin:inner.length=t.2.length:=Paired.length q3
 have lms:ms.length=s'.made.length:=Paired.length m2
 have hti:=top.sz.mi t (List.mem_of_getElem? hmk)
 have hk:k < s'.made.length:=(List.getElem?_eq_some_iff.mp hmk).1
 refine ⟨pu,rfl,_,hpu,rfl,_,_,rfl,_,_,rfl,rfl,?_⟩
 subst hu1
 walk_at "rd"
 refine ⟨C_Machine,o.dx,_,hx1,T.Machine.cl,T.n_Machine_made,_,Z2O,_,SqT.of hth,_,ix1,o.md,rfl,k,rfl,ms,SqL.of m1,_,Z0P hy,ye,rfl,_,q1,rfl,_,_,rfl,_,_,rfl,rfl,?_⟩
 subst hu2
 walk_at "rd"
 refine ⟨ia,_,rfl,q2,fun p1 H2 s2 hp1 p2 hp2=>?_⟩
 have s3:=Z0i hp2 (.tup [vv])
 rw [Z7B] at hp1
 refine ⟨p1,p2,_,_,rfl,rfl,hp1.same s3,SqT.of Z0e,by rw [List.length_take,sizeLine_eq]; show _+1≤_; omega,fun p3 H3 s4 hp3=>?_⟩
 have S3:=s2.trans (s3.trans s4)
 refine ⟨ia,_,rfl,q2.same S3,fun p4 H4 s5 hp4=>?_⟩
 rw [show ((pl:Int)+1)=((pl+1:Nat):Int) from rfl,Z5o] at hp4
 refine ⟨p3,p4,_,_,rfl,rfl,hp3.same s5,hp4,by rw [List.length_append,List.length_take,List.length_drop,sizeLine_eq]; show _+1+_≤_; omega,fun p5 H5 s6 hp5 p6 hp6=>?_⟩
 have s7:=Z0i hp6 (.tup [.int t.1,.ref p5])
 have S7:=S3.trans (s5.trans (s6.trans s7))
 have M7:=M1.same S7
 obtain ⟨e7,hx7,he7⟩:=M7.ins
 have m17:=S7 _ _ m1
 refine ⟨C_Machine,o.dx,_,hx7,T.Machine.cl,T.n_Machine_made,_,Z2O,_,SqT.of (S7 _ _ hth),_,ix1,o.md,rfl,k,rfl,ms,m17,k,Z8i (by omega),?_⟩
 have thv:ThV K (upd H5 p6 (.tup [.int t.1,.ref p5])) (.ref p6) (t.1,t.2.set pl v):=⟨p6,p5,_,rfl,SqT.of Z0e,hp5.same s7,by
  rw [← Z9z inner pl vv (by omega)]
  exact Pd.set (AtV.t hv (Same.t S7)) pl (AtVs.t q3 (Same.t S7))⟩
 obtain ⟨M8,k8⟩:=M7.things (ms':=ms.set k (.ref p6)) (mm:=s'.made.set k (t.1,t.2.set pl v)) (Pd.set thv k (Pd.imp (fun _ _ q=>ThV.t q (Same.t S7)) m2))
 have K8:=(M.keepS s1).trans ((M1.keepS S7).trans k8)
 have fr8:FrIs K _ a fr:=top.at_.t K8.t
 have hv8:=AtV.t hv ((Same.t S7).trans k8.t)
 generalize upd (upd H5 p6 (.tup [.int t.1,.ref p5])) o.md (.lst (ms.set k (.ref p6)))=H8 at *
 obtain ⟨F8,d1,d2,d3,d4,d5⟩:=fr8
 have lF8:F8.st.length=fr.st.length:=by rw [Paired.length d5,List.length_reverse]
 subst hu3
 walk_at "rd"
 refine ⟨a,2,vv,F8,rfl,d1,by omega,by omega,fun p9 H9 s9 hf9=>?_⟩
 have M9:=M8.same s9
 have hf:FrV K H9 (.ref p9) { fr with pc:=fr.pc+1,st:=v::st }:=mkFr hf9 d2 (by show F8.at_+1=_; rw [d3]; rfl) (AtVs.t d4 (Same.t s9)) (by
  show AtVs K H9 (F8.st.take (F8.st.length - 2)++[vv]) (v::st).reverse
  rw [List.reverse_cons]
  refine Pd.app ?_ (.cons (AtV.t hv8 (Same.t s9)) .nil)
  have:=Pd.take (F8.st.length - 2) (AtVs.t d5 (Same.t s9))
  rw [hst,List.reverse_cons,List.reverse_cons,List.append_assoc,lF8,l2,Nat.add_sub_cancel,List.take_left' (by rw [List.length_reverse])] at this
  rw [lF8,l2,Nat.add_sub_cancel]
  exact this)
 obtain ⟨xs,j,c1,c2,M10,k10⟩:=M9.put top.fr hf
 obtain ⟨e9,hx9,_⟩:=M9.ins
 exact ⟨C_Machine,o.dx,_,hx9,T.Machine.cl,T.n_Machine_stacked,_,Z0S,o.sk,rfl,xs,c1,j,c2,q o _ rfl (K8.trans ((M8.keepS s9).trans k10)) M10⟩
theorem J0B (T:Txt P w K mg C_Places C_Machine D_ROW_SIGNS) (h_uppermost:Has P w K mg base 1 "uppermost" ["frame","many"] (Z9Z K)) (h_behind:Has P w K mg base 1 "behind" ["frame","many","value"] (Z2N K)):HasM P w K mg base 2 C_Machine "make" ["self","house","many","frame"] (Z6F C_Machine C_Places K):=by
 refine HasM.of T.m_Machine_make Z4b (fun _ _ _ _ _ _ us hl=>el4 us hl fun _ _ _ _=>rfl) (fun vs H Q E h=>?_) (fun f cdv A outer s H vs Q E hr h=>?_)
 ·obtain ⟨ex,o,P,s,a,h,m,n,f,fs,s',rfl,_⟩:=h
  rfl
 obtain ⟨ex,o,P',s',a,hh,m,n,fr,fs,s2,rfl,M,top,hrow,q⟩:=h
 refine ⟨_,(Z0d (Z0p (Z1h PySem.F.plainAttrs_list PySem.F.slot_list_append PySem.F.type_list_append Z0z (Z0H (pvF 0) rfl) (Z0a (Z0A (Z0a (pvF 1) (Z0a (Z0x h_uppermost hr (by decide) rfl (Z0a (pvF 3) (Z0a (pvF 2) Z0b))) Z0b))) Z0b)))
  (Z0f (Z1x (Z0x h_behind hr (by decide) rfl (Z0a (pvF 3) (Z0a (pvF 2) (Z0a (Z0A (Z0a Z0g (Z0a (Z0k Z2r (Z0q Z0l rfl T.z_len Z0O (Z0a (Z0H (pvF 0) rfl) Z0b)) Z0c) Z0b))) Z0b)))) (Z3t (Z0H (pvF 0) rfl) (Z2L Z1N Z0c) Z1M)))),?_⟩
 walk_at "rd"
 obtain ⟨hm,rfl⟩:=J0E hrow
 obtain ⟨e0,hx,he0⟩:=M.ins
 obtain ⟨F,g1,g2,g3,g4,g5⟩:=top.at_
 have lF:F.st.length=fr.st.length:=by rw [Paired.length g5,List.length_reverse]
 have nn:=top.nn
 have lf:=top.sz.fr' top.fr
 have lmd:=top.sz.md
 obtain ⟨ms,m1,m2⟩:=M.mad
 have lms:ms.length=s'.made.length:=Paired.length m2
 refine ⟨C_Machine,o.dx,_,hx,T.Machine.cl,T.n_Machine_made,_,Z2O,.inl ⟨rfl,_,SqL.of m1⟩,a,m,F,rfl,g1,by omega,by omega,fun pu H1 s1 hpu p hp=>?_⟩
 have s2:=Z0i hp (.tup [.int hh,.ref pu])
 have S:=s1.trans s2
 have M2:=M.same S
 refine ⟨o.md,rfl,ms,S _ _ m1,by omega,?_⟩
 have thv:ThV K (upd H1 p (.tup [.int hh,.ref pu])) (.ref p) (hh,(fr.st.take m).reverse):=⟨p,pu,_,rfl,SqT.of Z0e,hpu.same s2,by
  show AtVs K _ (F.st.drop (F.st.length - m)) (fr.st.take m).reverse
  rw [List.reverse_take,← lF]
  exact Pd.drop _ (AtVs.t g5 (Same.t S))⟩
 obtain ⟨M3,k3⟩:=M2.things (ms':=ms++[.ref p]) (mm:=s'.made++[(hh,(fr.st.take m).reverse)]) (Pd.app (Pd.imp (fun _ _ q=>ThV.t q (Same.t S)) m2) (.cons thv .nil))
 have md3:upd (upd H1 p (.tup [.int hh,.ref pu])) o.md (.lst (ms++[.ref p])) o.md=some (.lst (ms++[.ref p])):=Z0e
 have K3:=(M.keepS S).trans k3
 have fr3:FrIs K _ a fr:=top.at_.t K3.t
 generalize upd (upd H1 p (.tup [.int hh,.ref pu])) o.md (.lst (ms++[.ref p]))=H3 at *
 obtain ⟨e3,hx3,_⟩:=M3.ins
 refine ⟨C_Machine,o.dx,_,hx3,T.Machine.cl,T.n_Machine_made,_,Z2O,o.md,rfl,_,.inl (SqL.of md3),fun p2 hp2=>?_⟩
 have lp:(((ms++[V.ref p]).length:Int) - 1)=(s'.made.length:Int):=by rw [List.length_append]; show ((ms.length+1:Nat):Int) - 1=_; omega
 rw [lp]
 have s4:=Z0i hp2 (.tup [.str "thing",.int s'.made.length])
 have e4:upd H3 p2 (.tup [.str "thing",.int s'.made.length]) p2=some (.tup [.str "thing",.int s'.made.length]):=Z0e
 obtain ⟨F4,d1,d2,d3,d4,d5⟩:=fr3.t (Same.t s4)
 have lF4:F4.st.length=fr.st.length:=by rw [Paired.length d5,List.length_reverse]
 refine ⟨a,m,_,F4,rfl,d1,by omega,by omega,fun p3 H5 s5 hf5=>?_⟩
 have S5:=s4.trans s5
 have M5:=M3.same S5
 have hf:FrV K H5 (.ref p3) { fr with pc:=fr.pc+1,st:=.th s'.made.length::fr.st.drop m }:=mkFr hf5 d2 (by show F4.at_+1=_; rw [d3]; rfl) (AtVs.t d4 (Same.t s5)) (by
  show AtVs K H5 (F4.st.take (F4.st.length - m)++[.ref p2]) (AV.th s'.made.length::fr.st.drop m).reverse
  rw [List.reverse_cons,List.reverse_drop,← lF4]
  exact Pd.app (Pd.take _ (AtVs.t d5 (Same.t s5))) (.cons ⟨p2,rfl,s5 _ _ e4,by omega⟩ .nil))
 obtain ⟨xs,j,c1,c2,M6,k6⟩:=M5.put top.fr hf
 obtain ⟨e5,hx5,_⟩:=M5.ins
 exact ⟨C_Machine,o.dx,_,hx5,T.Machine.cl,T.n_Machine_stacked,_,Z0S,o.sk,rfl,xs,c1,j,c2,q o _ rfl (K3.trans ((M3.keepS S5).trans k6)) M6⟩
end
end K65
end
section
namespace K65
open PySem L2 MM
open Mach (AV AFr Row Sg Blk MS PL Mem getP updM seen Z0K Bd)
seal L2.PE L2.PA L2.PT L2.PS L2.PSs L2.PG L2.PGs L2.PI L2.PW
def OwnQ (K:W.Frag) (H:Hp) (s' s2:MS) (fs:List AFr) (a:Addr):VK:=fun v H'=>∃ p,v=.ref p∧Same H H'∧((∃ pf f',s2={ s' with frames:=f'::fs }∧FrV K H' (.ref pf) f'∧SqT K H' p [.ref pf,.non])∨(∃ q' e,s2=Mach.ends s' e∧SqT K H' p [.ref a,.ref q']∧EndIs K H' q' e))
def sgOk:Sg→Str→Prop
 | .add,sg=>sg="+"
 | .sub,sg=>sg="-"
 | .mul,sg=>sg="*"
 | .div,sg=>sg="/"
 | .less,sg=>sg="<"
 | .same,sg=>sg="="
theorem J2L (g:Sg):∃ sg,valV Z2t (.inr (sgN g))=some (.str sg)∧sgOk g sg:=by
 cases g <;> exact ⟨_,rfl,rfl⟩
theorem J2r {K:W.Frag} {H:Hp} {g:Sg} {x y:V} {a b:AV} {res:AV ⊕ Mach.End} {sg:Str} (hx:AtV K H x a) (hy:AtV K H y b) (h:Mach.two g a b=some res) (hs:sgOk g sg) :
  ∃ rr,TwoR K H sg x y rr∧((∃ v av,res=.inl av∧rr=[.str "value",v]∧∀ H',AtV K H' v av)∨(res=.inr .great∧rr=[.str "refused",.str "great"])∨(res=.inr .nought∧rr=[.str "refused",.str "nought"])):=by
 have tol:∀ n:Int,(∃ v av,Mach.told n=.inl av∧Z5d n=[.str "value",v]∧∀ H',AtV K H' v av)∨(Mach.told n=.inr .great∧Z5d n=[.str "refused",.str "great"])∨(Mach.told n=.inr .nought∧Z5d n=[.str "refused",.str "nought"]):=fun n=>by
  unfold Mach.told Z5d
  by_cases hb:Bd n
  ·rw [if_pos hb,if_pos hb]; exact .inl ⟨_,_,rfl,rfl,fun _=>⟨rfl,hb⟩⟩
  ·rw [if_neg hb,if_neg hb]; exact .inr (.inl ⟨rfl,rfl⟩)
 cases g with
 | add=>
  cases a <;> cases b <;> first | (cases h; done) | skip
  cases h; obtain rfl:sg=_:=hs
  obtain ⟨rfl,b1⟩:=hx; obtain ⟨rfl,b2⟩:=hy
  exact ⟨_,.ar (.inl rfl) b1 b2,tol _⟩
 | sub=>
  cases a <;> cases b <;> first | (cases h; done) | skip
  cases h; obtain rfl:sg=_:=hs
  obtain ⟨rfl,b1⟩:=hx; obtain ⟨rfl,b2⟩:=hy
  exact ⟨_,.ar (.inr (.inl rfl)) b1 b2,tol _⟩
 | mul=>
  cases a <;> cases b <;> first | (cases h; done) | skip
  cases h; obtain rfl:sg=_:=hs
  obtain ⟨rfl,b1⟩:=hx; obtain ⟨rfl,b2⟩:=hy
  exact ⟨_,.ar (.inr (.inr (.inl rfl))) b1 b2,tol _⟩
 | div=>
  cases a <;> cases b <;> first | (cases h; done) | skip
  cases h; obtain rfl:sg=_:=hs
  obtain ⟨rfl,b1⟩:=hx; obtain ⟨rfl,b2⟩:=hy
  rename_i ia ib
  refine ⟨_,.ar (.inr (.inr (.inr rfl))) b1 b2,?_⟩
  unfold Z7W
  by_cases hz:ib=0
  ·rw [if_pos hz,if_pos ⟨rfl,hz⟩]; exact .inr (.inr ⟨rfl,rfl⟩)
  ·rw [if_neg hz,if_neg (fun z=>hz z.2)]; exact tol _
 | less=>
  cases a <;> cases b <;> first | (cases h; done) | skip
  cases h; obtain rfl:sg=_:=hs
  obtain ⟨rfl,b1⟩:=hx; obtain ⟨rfl,b2⟩:=hy
  exact ⟨_,.lt _ _,.inl ⟨_,_,rfl,rfl,fun _=>rfl⟩⟩
 | same=>
  cases a <;> cases b <;> first | (cases h; done) | skip
  ·cases h; obtain rfl:sg=_:=hs
   obtain rfl:x=_:=hx; obtain rfl:y=_:=hy
   rename_i ia ib
   refine ⟨_,.eq (.bl _) (.bl _) rfl rfl,.inl ⟨_,_,rfl,rfl,fun _=>?_⟩⟩
   show V.bl _=V.bl _
   cases ia <;> cases ib <;> (rw [PyData.eqv]; rfl)
  ·cases h; obtain rfl:sg=_:=hs
   obtain ⟨rfl,b1⟩:=hx; obtain ⟨rfl,b2⟩:=hy
   refine ⟨_,.eq (.int _) (.int _) rfl rfl,.inl ⟨_,_,rfl,rfl,fun _=>?_⟩⟩
   show V.bl _=V.bl _
   rw [PyData.eqv]; rfl
  ·cases h; obtain rfl:sg=_:=hs
   obtain ⟨t1,rfl,h1,_⟩:=hx; obtain ⟨t2,rfl,h2,_⟩:=hy
   rename_i ia ib
   have sh:∀ k:Nat,PySem.SeqAt.shaped (.tuple [.str "thing",.int k])=true:=fun k=>(Lay.tup (k:=0) (.cons (.of (Nice.str (n:=5) (by decide +kernel) (by decide +kernel))) (.cons .int .nil))).shaped (by decide)
   refine ⟨_,.eq (.tup (SqT.of h1) (.cons (.str _) (.cons (.int _) .nil))) (.tup (SqT.of h2) (.cons (.str _) (.cons (.int _) .nil))) (sh _) (sh _),.inl ⟨_,_,rfl,rfl,fun _=>?_⟩⟩
   show V.bl _=V.bl _
   simp [PyData.eqv,PyData.eqvAll]
   apply Bool.eq_iff_iff.mpr
   simp only [beq_iff_eq,decide_eq_true_eq]
   exact Int.ofNat_inj
theorem J2n {K:W.Frag} {H:Hp} {r a tl:Addr} {row:Row} {fr:AFr} {s' s2:MS} {fs:List AFr} {ms:List V} {ow:AFr ⊕ Mach.End} {E:XK} (hro:RowAt K H r row) (hio:Z9L row=true) (hfr:FrIs K H a fr) (hsl:SqL K H tl ms) (hms:Paired (ThV K H) ms s'.made) (how:Mach.own fr s'.made row=some ow)
  (hres:(∃ f',ow=.inl f'∧s2={ s' with frames:=f'::fs })∨∃ e,ow=.inr e∧s2=Mach.ends s' e) (lst:fr.st.length < 90000) (lsl:fr.sl.length < 900):Z4L K [.ref r,.ref a,.ref tl] H (OwnQ K H s' s2 fs a) E:=by
 obtain ⟨F,g1,g2,g3,g4,g5⟩:=hfr
 have lF:F.st.length=fr.st.length:=by rw [Paired.length g5,List.length_reverse]
 have lS:F.sl.length=fr.sl.length:=Paired.length g4
 have fin:∀ {nm:Str} {args:List V} {F':Fr} {f':AFr},SqT K H r (.str nm::args)→OwnR K H tl F nm args F'→ow=.inl f'→F'.n=.int f'.n→F'.at_=(f'.pc:Int)→AtVs K H F'.sl f'.sl→AtVs K H F'.st f'.st.reverse→Z4L K [.ref r,.ref a,.ref tl] H (OwnQ K H s' s2 fs a) E:=by
  intro nm args F' f' h1 h2 e a1 a2 a3 a4
  have es:s2={ s' with frames:=f'::fs }:=by
   rcases hres with ⟨f'',e',h⟩ | ⟨e'',e',_⟩
   ·rw [e] at e'; cases e'; exact h
   ·rw [e] at e'; cases e'
  exact ⟨r,a,tl,_,_,F,rfl,h1,g1,by omega,by omega,.inr ⟨_,h2,fun p pf H' s1 hf hp=>⟨p,rfl,s1,.inl ⟨pf,f',es,mkFr hf a1 a2 (AtVs.t a3 (Same.t s1)) (AtVs.t a4 (Same.t s1)),hp⟩⟩⟩⟩
 have up:∀ {v:AV} {st:List AV},fr.st=v::st→∃ sv x,F.st=sv++[x]∧AtVs K H sv st.reverse∧AtV K H x v:=fun e=>by
  rw [e,List.reverse_cons] at g5
  exact Pd.snoc_inv g5
 cases row with
 | make _ _=>cases hio
 | put _=>cases hio
 | call _ _ _=>cases hio
 | straight _ _=>cases hio
 | back=>cases hio
 | push v=>
  obtain ⟨x,h1,h2⟩:=hro
  cases how
  exact fin h1 (.push x) rfl g2 (by show F.at_+1=_; rw [g3]; rfl) g4 (by
   show AtVs K H (F.st++[x]) (v::fr.st).reverse
   rw [List.reverse_cons]; exact Pd.app g5 (.cons h2 .nil))
 | load i=>
  simp only [Mach.own] at how
  obtain ⟨v,hv,e⟩:=Option.map_eq_some_iff.mp how
  obtain ⟨x,hx,hxv⟩:=Pd.at g4 hv
  exact fin hro (.load i x (Z0P hx)) e.symm g2 (by show F.at_+1=_; rw [g3]; rfl) g4 (by
   show AtVs K H (F.st++[x]) (v::fr.st).reverse
   rw [List.reverse_cons]; exact Pd.app g5 (.cons hxv .nil))
 | nt=>
  simp only [Mach.own] at how
  split at how
  ·rename_i b st e
   cases how
   obtain ⟨sv,x,e1,h1,h2⟩:=up e
   obtain rfl:x=.bl b:=h2
   exact fin hro (.nt b sv e1) rfl g2 (by show F.at_+1=_; rw [g3]; rfl) g4 (by
    show AtVs K H (sv++[.bl (!b)]) (AV.bl (!b)::st).reverse
    rw [List.reverse_cons]; exact Pd.app h1 (.cons rfl .nil))
  ·cases how
 | get pl=>
  simp only [Mach.own] at how
  split at how
  ·rename_i k st e
   obtain ⟨t,ht,how⟩:=Option.bind_eq_some_iff.mp how
   obtain ⟨v,hv,how⟩:=Option.map_eq_some_iff.mp how
   obtain ⟨sv,x,e1,h1,h2⟩:=up e
   obtain ⟨th,rfl,hth,_⟩:=h2
   obtain ⟨y,hy,ye,ia,inner,rfl,q1,q2,q3⟩:=Pd.at hms ht
   obtain ⟨z,hz,hzv⟩:=Pd.at q3 hv
   exact fin hro (.get sv th k pl ms ye ia _ inner z e1 hsl (SqT.of hth) (Z0P hy) q1 q2 (Z0P hz)) how.symm g2 (by show F.at_+1=_; rw [g3]; rfl) g4 (by
    show AtVs K H (sv++[z]) (v::st).reverse
    rw [List.reverse_cons]; exact Pd.app h1 (.cons hzv .nil))
  ·cases how
 | keep i=>
  simp only [Mach.own] at how
  split at how
  ·rename_i v st e
   split at how
   ·rename_i hi
    cases how
    obtain ⟨sv,x,e1,h1,h2⟩:=up e
    exact fin hro (.keep i x sv e1 (by omega) (by omega)) rfl g2 (by show F.at_+1=_; rw [g3]; rfl) (by
     show AtVs K H (F.sl.take i++[x]++F.sl.drop (i+1)) (fr.sl.set i v)
     rw [← Z9z _ _ _ (by omega)]
     exact Pd.set h2 i g4) h1
   ·cases how
  ·cases how
 | drop=>
  simp only [Mach.own] at how
  split at how
  ·rename_i v st e
   cases how
   obtain ⟨sv,x,e1,h1,h2⟩:=up e
   exact fin hro (.drop x sv e1) rfl g2 (by show F.at_+1=_; rw [g3]; rfl) g4 h1
  ·cases how
 | skip k=>
  cases how
  exact fin hro (.skip k) rfl g2 (by show F.at_+1+(k:Int)=((fr.pc+1+k:Nat):Int); rw [g3]; omega) g4 g5
 | unl k=>
  simp only [Mach.own] at how
  split at how
  ·rename_i b st e
   cases how
   obtain ⟨sv,x,e1,h1,h2⟩:=up e
   obtain rfl:x=.bl b:=h2
   exact fin hro (.unl k b sv e1) rfl g2 (by
    show F.at_+1+(if b=true then 0 else (k:Int))=((fr.pc+1+(if b then 0 else k):Nat):Int)
    rw [g3]; cases b <;> simp) g4 h1
  ·cases how
 | two g=>
  simp only [Mach.own] at how
  split at how
  ·rename_i y x st e
   obtain ⟨res,hres2,how⟩:=Option.map_eq_some_iff.mp how
   rw [e,List.reverse_cons,List.reverse_cons] at g5
   obtain ⟨sv,yv,e1,h1,hy⟩:=Pd.snoc_inv g5
   obtain ⟨su,xv,e2,h2,hx⟩:=Pd.snoc_inv h1
   subst e2
   obtain ⟨sg,hs1,hs2⟩:=J2L g
   obtain ⟨rr,htw,hc⟩:=J2r hx hy hres2 hs2
   refine ⟨r,a,tl,sgN g,[],F,rfl,hro,g1,by omega,by omega,.inl ⟨sg,su,xv,yv,rr,hs1,by rw [e1,List.append_assoc]; rfl,htw,fun why p q' H' er s1 hq hp=>?_,fun v p pf H' er s1 hf hp=>?_⟩⟩
   ·rcases hc with ⟨v,av,_,e3,_⟩ | ⟨e3,e4⟩ | ⟨e3,e4⟩
    ·rw [e3] at er; exact absurd (V.str.inj (List.cons.inj er).1) (by decide)
    ·rw [e4] at er
     obtain rfl:why="great":=(V.str.inj (List.cons.inj (List.cons.inj er).2).1).symm
     subst e3
     refine ⟨p,rfl,s1,.inr ⟨q',.great,?_,hp,by rw [e4] at hq; exact hq⟩⟩
     rcases hres with ⟨f'',e',_⟩ | ⟨e'',e',h⟩
     ·rw [← how] at e'; cases e'
     ·rw [← how] at e'; cases e'; exact h
    ·rw [e4] at er
     obtain rfl:why="nought":=(V.str.inj (List.cons.inj (List.cons.inj er).2).1).symm
     subst e3
     refine ⟨p,rfl,s1,.inr ⟨q',.nought,?_,hp,by rw [e4] at hq; exact hq⟩⟩
     rcases hres with ⟨f'',e',_⟩ | ⟨e'',e',h⟩
     ·rw [← how] at e'; cases e'
     ·rw [← how] at e'; cases e'; exact h
   ·rcases hc with ⟨v',av,e3,e4,hv⟩ | ⟨e3,e4⟩ | ⟨e3,e4⟩
    ·rw [e4] at er
     obtain rfl:v'=v:=(List.cons.inj (List.cons.inj er).2).1
     subst e3
     refine ⟨p,rfl,s1,.inl ⟨pf,{ fr with pc:=fr.pc+1,st:=av::st },?_,mkFr hf g2 (by show F.at_+1=_; rw [g3]; rfl) (AtVs.t g4 (Same.t s1)) ?_,hp⟩⟩
     ·rcases hres with ⟨f'',e',h⟩ | ⟨e'',e',_⟩
      ·rw [← how] at e'; cases e'; exact h
      ·rw [← how] at e'; cases e'
     ·show AtVs K H' (su++[v']) (av::st).reverse
      rw [List.reverse_cons]
      exact Pd.app (AtVs.t h2 (Same.t s1)) (.cons (hv H') .nil)
    ·rw [e4] at er; exact absurd (V.str.inj (List.cons.inj er).1) (by decide)
    ·rw [e4] at er; exact absurd (V.str.inj (List.cons.inj er).1) (by decide)
  ·cases how
section
variable {C_Places C_Machine D_ROW_SIGNS:Addr} {P:Program} {w:World} {K:W.Frag} {mg:Str→Option Value} {base:Heap}
theorem J0G (T:Txt P w K mg C_Places C_Machine D_ROW_SIGNS) (h_own_done:Has P w K mg base 4 "own_done" ["row","frame","things"] (Z4L K)) (h_Machine_end:HasM P w K mg base 1 C_Machine "end" ["self","told"] (Z7o C_Machine C_Places K)):HasM P w K mg base 5 C_Machine "do_own" ["self","row","frame"] (Z7v C_Machine C_Places K):=by
 refine HasM.of T.m_Machine_do_own sc_Machine_do_own (fun _ _ _ _ _ _ us hl=>el3 us hl fun _ _ _=>rfl) (fun vs H Q E h=>?_) (fun f cdv A outer s H vs Q E hr h=>?_)
 ·obtain ⟨ex,o,P,s,r,a,row,n,f,fs,s',rfl,_⟩:=h
  rfl
 obtain ⟨ex,o,P',s',r,a,row,n,fr,fs,s2,rfl,M,top,hro,hio,hrow,q⟩:=h
 refine ⟨_,(Z0d (Z1x (Z0x h_own_done hr (by decide) rfl (Z0a (pvF 1) (Z0a (pvF 2) (Z0a (Z0H (pvF 0) rfl) Z0b)))) (Z1Z (n:=2) rfl (Z0B (Z0v (i:=3) sc_Machine_do_own.nd rfl (Or.inl rfl)) (Z0B (Z0v (i:=4) sc_Machine_do_own.nd rfl (Or.inl rfl)) Z1Y))))
  (Z0d (Z1x (pvF 3) (Z3t (Z0H (pvF 0) rfl) (Z2L Z1N Z0c) Z1M))
  (Z0f (Z0L (Z0m Z5f (pvF 4) Z1E (Z0o _)) (Z0f (Z0p (Z1a (pvF 0) T.Machine.cl h_Machine_end hr (by decide) (Z0a (pvF 4) Z0b)))) Z0C)))),?_⟩
 walk_at "rd"
 obtain ⟨ow,how,hres⟩:=J1V hio hrow
 obtain ⟨e0,hx,he0⟩:=M.ins
 obtain ⟨ms,m1,m2⟩:=M.mad
 have nn:=top.nn
 have lf:=top.sz.fr' top.fr
 refine ⟨C_Machine,o.dx,_,hx,T.Machine.cl,T.n_Machine_made,_,Z2O,?_⟩
 refine Z8d (J2n hro hio top.at_ (SqL.of m1) m2 how hres (by omega) (by omega)) ?_
 rintro v H1 ⟨p,rfl,s1,hcase⟩
 have M1:=M.same s1
 obtain ⟨e1,hx1,_⟩:=M1.ins
 rcases hcase with ⟨pf,f',rfl,hf,hp⟩ | ⟨q',e,rfl,hp,he⟩
 ·obtain ⟨xs,j,c1,c2,M2,k2⟩:=M1.put top.fr hf
  refine ⟨p,rfl,_,hp,rfl,_,_,rfl,_,_,rfl,rfl,C_Machine,o.dx,_,hx1,T.Machine.cl,T.n_Machine_stacked,_,Z0S,o.sk,rfl,xs,c1,j,c2,?_⟩
  rw [if_neg (by simp)]
  exact q o _ rfl ((M.keepS s1).trans k2) M2
 ·obtain ⟨xs,j,c1,c2,M2,k2⟩:=M1.put top.fr (show FrV K H1 (.ref a) fr from ⟨a,rfl,top.at_.t (Same.t s1)⟩)
  refine ⟨p,rfl,_,hp,rfl,_,_,rfl,_,_,rfl,rfl,C_Machine,o.dx,_,hx1,T.Machine.cl,T.n_Machine_stacked,_,Z0S,o.sk,rfl,xs,c1,j,c2,?_⟩
  rw [if_pos (by simp)]
  obtain ⟨e2,hx2,_⟩:=M2.ins
  exact ⟨o.dx,_,hx2,rfl,ex,o,P',_,q',e,rfl,M2,he.t k2.t,fun qq H3 k3 M3=>q { o with sk:=qq } _ rfl (((M.keepS s1).trans k2).trans k3) M3⟩
end
end K65
end
section
namespace K65
open PySem L2 MM
open Mach (AV AFr Row Sg Blk MS PL Mem getP updM seen Z0K Bd)
seal L2.PE L2.PA L2.PT L2.PS L2.PSs L2.PG L2.PGs L2.PI L2.PW
theorem J0A {P:Mach.Prog} {s s2:MS} {f:AFr} {fs:List AFr} {site word many:Nat} (h:Mach.rowM P s f fs (.call site word many)=some s2):∃ k rest t b s1,(f.st.take many).reverse=.th k::rest∧many≤f.st.length∧s.made[k]?=some t∧Mach.found P s t.1 site word=some (b,s1)∧Mach.enter P s1 f fs b many=some s2:=by
 simp only [Mach.rowM] at h
 split at h
 ·rename_i k rest e
  split at h
  ·rename_i hm
   obtain ⟨t,ht,h⟩:=Option.bind_eq_some_iff.mp h
   obtain ⟨⟨b,s1⟩,hb,h⟩:=Option.bind_eq_some_iff.mp h
   exact ⟨k,rest,t,b,s1,e,hm,ht,hb,h⟩
  ·cases h
 ·cases h
theorem J1b {K:W.Frag} {H:Hp} {r:Addr} {row:Row} (hi:Z9L row=true) (h:RowAt K H r row):∃ nm args,SqT K H r (.str nm::args)∧V.str nm≠.str "make"∧V.str nm≠.str "put"∧V.str nm≠.str "call"∧V.str nm≠.str "straight"∧V.str nm≠.str "back":=by
 cases row with
 | make _ _=>cases hi
 | put _=>cases hi
 | call _ _ _=>cases hi
 | straight _ _=>cases hi
 | back=>cases hi
 | push v=>obtain ⟨x,a,_⟩:=h; exact ⟨_,_,a,by decide⟩
 | load i=>exact ⟨_,_,h,by decide⟩
 | nt=>exact ⟨_,_,h,by decide⟩
 | get pl=>exact ⟨_,_,h,by decide⟩
 | keep i=>exact ⟨_,_,h,by decide⟩
 | drop=>exact ⟨_,_,h,by decide⟩
 | skip k=>exact ⟨_,_,h,by decide⟩
 | unl k=>exact ⟨_,_,h,by decide⟩
 | two g=>cases g <;> exact ⟨_,_,h,by decide⟩
section
variable {C_Places C_Machine D_ROW_SIGNS:Addr} {P:Program} {w:World} {K:W.Frag} {mg:Str→Option Value} {base:Heap}
theorem J1m (T:Txt P w K mg C_Places C_Machine D_ROW_SIGNS):HasM P w K mg base 1 C_Machine "calls" ["self"] (Z3r C_Machine C_Places K (fun s=>s.calls)):=by
 refine HasM.of T.m_Machine_calls Z3R (fun _ _ _ _ _ _ us hl=>el1 us hl fun _=>rfl) (fun vs H Q E h=>?_) (fun f cdv A outer s H vs Q E hr h=>?_)
 ·obtain ⟨ex,o,P,s,rfl,_⟩:=h
  rfl
 obtain ⟨ex,o,P',s',rfl,M,q⟩:=h
 refine ⟨_,(Z0f (Z0y (Z0H (pvF 0) rfl))),?_⟩
 walk_at "rd"
 obtain ⟨e0,hx,he0⟩:=M.ins
 exact ⟨C_Machine,o.dx,_,hx,T.Machine.cl,T.n_Machine_call_count,_,Z4Z,q⟩
theorem J0H (T:Txt P w K mg C_Places C_Machine D_ROW_SIGNS):HasM P w K mg base 1 C_Machine "looks" ["self"] (Z3r C_Machine C_Places K (fun s=>s.looks)):=by
 refine HasM.of T.m_Machine_looks Z3O (fun _ _ _ _ _ _ us hl=>el1 us hl fun _=>rfl) (fun vs H Q E h=>?_) (fun f cdv A outer s H vs Q E hr h=>?_)
 ·obtain ⟨ex,o,P,s,rfl,_⟩:=h
  rfl
 obtain ⟨ex,o,P',s',rfl,M,q⟩:=h
 refine ⟨_,(Z0f (Z0y (Z0H (pvF 0) rfl))),?_⟩
 walk_at "rd"
 obtain ⟨e0,hx,he0⟩:=M.ins
 exact ⟨C_Machine,o.dx,_,hx,T.Machine.cl,T.n_Machine_look_count,_,Z5q,q⟩
theorem J2q (T:Txt P w K mg C_Places C_Machine D_ROW_SIGNS):HasM P w K mg base 1 C_Machine "hits" ["self"] (Z3r C_Machine C_Places K (fun s=>s.hits)):=by
 refine HasM.of T.m_Machine_hits Z4r (fun _ _ _ _ _ _ us hl=>el1 us hl fun _=>rfl) (fun vs H Q E h=>?_) (fun f cdv A outer s H vs Q E hr h=>?_)
 ·obtain ⟨ex,o,P,s,rfl,_⟩:=h
  rfl
 obtain ⟨ex,o,P',s',rfl,M,q⟩:=h
 refine ⟨_,(Z0f (Z0y (Z0H (pvF 0) rfl))),?_⟩
 walk_at "rd"
 obtain ⟨e0,hx,he0⟩:=M.ins
 exact ⟨C_Machine,o.dx,_,hx,T.Machine.cl,T.n_Machine_hit_count,_,Z8H,q⟩
theorem Z5T (T:Txt P w K mg C_Places C_Machine D_ROW_SIGNS):HasM P w K mg base 1 C_Machine "rows_done" ["self"] (Z3r C_Machine C_Places K (fun s=>s.rows)):=by
 refine HasM.of T.m_Machine_rows_done Z3c (fun _ _ _ _ _ _ us hl=>el1 us hl fun _=>rfl) (fun vs H Q E h=>?_) (fun f cdv A outer s H vs Q E hr h=>?_)
 ·obtain ⟨ex,o,P,s,rfl,_⟩:=h
  rfl
 obtain ⟨ex,o,P',s',rfl,M,q⟩:=h
 refine ⟨_,(Z0f (Z0y (Z0H (pvF 0) rfl))),?_⟩
 walk_at "rd"
 obtain ⟨e0,hx,he0⟩:=M.ins
 exact ⟨C_Machine,o.dx,_,hx,T.Machine.cl,T.n_Machine_row_count,_,Z8k,q⟩
theorem Z8z (T:Txt P w K mg C_Places C_Machine D_ROW_SIGNS):HasM P w K mg base 1 C_Machine "answer" ["self"] (Z5U C_Machine C_Places K):=by
 refine HasM.of T.m_Machine_answer Z3E (fun _ _ _ _ _ _ us hl=>el1 us hl fun _=>rfl) (fun vs H Q E h=>?_) (fun f cdv A outer s H vs Q E hr h=>?_)
 ·obtain ⟨ex,o,P,s,rfl,_⟩:=h
  rfl
 obtain ⟨ex,o,P',s',rfl,M,q⟩:=h
 refine ⟨_,(Z0f (Z0y (Z0H (pvF 0) rfl))),?_⟩
 walk_at "rd"
 obtain ⟨e0,hx,he0⟩:=M.ins
 exact ⟨C_Machine,o.dx,_,hx,T.Machine.cl,T.n_Machine_ended,_,Z7s,q _ he0⟩
theorem Z8D (T:Txt P w K mg C_Places C_Machine D_ROW_SIGNS):HasM P w K mg base 1 C_Machine "frames" ["self"] (Z5O C_Machine C_Places K):=by
 refine HasM.of T.m_Machine_frames Z3H (fun _ _ _ _ _ _ us hl=>el1 us hl fun _=>rfl) (fun vs H Q E h=>?_) (fun f cdv A outer s H vs Q E hr h=>?_)
 ·obtain ⟨ex,o,P,s,rfl,_⟩:=h
  rfl
 obtain ⟨ex,o,P',s',rfl,M,q⟩:=h
 refine ⟨_,(Z0f (Z0y (Z1r Z1X rfl T.z_list Z3X (Z0a (Z0H (pvF 0) rfl) Z0b)))),?_⟩
 walk_at "rd"
 obtain ⟨e0,hx,he0⟩:=M.ins
 obtain ⟨ss,m1,m2⟩:=M.stk
 exact ⟨C_Machine,o.dx,_,hx,T.Machine.cl,T.n_Machine_stacked,_,Z0S,o.sk,rfl,ss,.inl (SqL.of m1),fun l hl=>q l ss hl m2⟩
theorem J0x (T:Txt P w K mg C_Places C_Machine D_ROW_SIGNS) (h_Machine_make:HasM P w K mg base 2 C_Machine "make" ["self","house","many","frame"] (Z6F C_Machine C_Places K)) (h_Machine_set_field:HasM P w K mg base 2 C_Machine "set_field" ["self","place","frame"] (Z8u C_Machine C_Places K)) (h_Machine_found_block:HasM P w K mg base 3 C_Machine "found_block" ["self","site","word","many","frame"] (Z5P C_Machine C_Places K)) (h_Machine_enter:HasM P w K mg base 2 C_Machine "enter" ["self","block","many","frame"] (Z5K C_Machine C_Places K)) (h_Machine_go_back:HasM P w K mg base 2 C_Machine "go_back" ["self","frame"] (Z5C C_Machine C_Places K)) (h_Machine_do_own:HasM P w K mg base 5 C_Machine "do_own" ["self","row","frame"] (Z7v C_Machine C_Places K)):HasM P w K mg base 6 C_Machine "step" ["self"] (Z5j C_Machine C_Places K):=by
 refine HasM.of T.m_Machine_step sc_Machine_step (fun _ _ _ _ _ _ us hl=>el1 us hl fun _=>rfl) (fun vs H Q E h=>?_) (fun f cdv A outer s H vs Q E hr h=>?_)
 ·obtain ⟨ex,o,P,s,rfl,_⟩:=h
  rfl
 obtain ⟨ex,o,P',s',rfl,M,hq⟩:=h
 refine ⟨_,(Z0d (Z0L (Z0m Z5f (Z0H (pvF 0) rfl) Z1E (Z0o _)) (Z0f (Z0y Z5g)) Z0C)
  (Z0d (Z2U (pvF 0) Z0c Z5m)
  (Z0d (Z0I (i:=1) sc_Machine_step.nd rfl (Or.inl rfl) (Z0u (r:=Z0U K) Z0w (Z0H (pvF 0) rfl) (Z2L Z1N Z0c) (fun _ _=>rfl)))
  (Z0d (Z0I (i:=2) sc_Machine_step.nd rfl (Or.inl rfl) (Z0u (r:=Z0M K) Z0r (Z0u (r:=Z0M K) Z0r (Z0u (r:=Z0M K) Z0r (Z0H (pvF 0) rfl) (Z0u (r:=Z0M K) Z0r (pvF 1) Z0c (fun _ _=>rfl)) (fun _ _=>rfl)) Z0c (fun _ _=>rfl)) (Z0u (r:=Z0M K) Z0r (pvF 1) Z0c (fun _ _=>rfl)) (fun _ _=>rfl)))
  (Z0d (Z0L (Z0m Z0R (Z0u (r:=Z0M K) Z0r (pvF 2) Z0c (fun _ _=>rfl)) Z0g (Z0o _)) (Z0f (Z0p (Z1a (pvF 0) T.Machine.cl h_Machine_make hr (by decide) (Z0a (Z0u (r:=Z0M K) Z0r (pvF 2) Z0c (fun _ _=>rfl)) (Z0a (Z0u (r:=Z0M K) Z0r (pvF 2) Z0c (fun _ _=>rfl)) (Z0a (pvF 1) Z0b)))))) (Z0f (Z0L (Z0m Z0R (Z0u (r:=Z0M K) Z0r (pvF 2) Z0c (fun _ _=>rfl)) Z0g (Z0o _)) (Z0f (Z0p (Z1a (pvF 0) T.Machine.cl h_Machine_set_field hr (by decide) (Z0a (Z0u (r:=Z0M K) Z0r (pvF 2) Z0c (fun _ _=>rfl)) (Z0a (pvF 1) Z0b))))) (Z0f (Z0L (Z0m Z0R (Z0u (r:=Z0M K) Z0r (pvF 2) Z0c (fun _ _=>rfl)) Z0g (Z0o _)) (Z0f (Z0p (Z1a (pvF 0) T.Machine.cl h_Machine_enter hr (by decide) (Z0a (Z1a (pvF 0) T.Machine.cl h_Machine_found_block hr (by decide) (Z0a (Z0u (r:=Z0M K) Z0r (pvF 2) Z0c (fun _ _=>rfl)) (Z0a (Z0u (r:=Z0M K) Z0r (pvF 2) Z0c (fun _ _=>rfl)) (Z0a (Z0u (r:=Z0M K) Z0r (pvF 2) Z0c (fun _ _=>rfl)) (Z0a (pvF 1) Z0b))))) (Z0a (Z0u (r:=Z0M K) Z0r (pvF 2) Z0c (fun _ _=>rfl)) (Z0a (pvF 1) Z0b)))))) (Z0f (Z0L (Z0m Z0R (Z0u (r:=Z0M K) Z0r (pvF 2) Z0c (fun _ _=>rfl)) Z0g (Z0o _)) (Z0f (Z0p (Z1a (pvF 0) T.Machine.cl h_Machine_enter hr (by decide) (Z0a (Z0u (r:=Z0M K) Z0r (pvF 2) Z0c (fun _ _=>rfl)) (Z0a (Z0u (r:=Z0M K) Z0r (pvF 2) Z0c (fun _ _=>rfl)) (Z0a (pvF 1) Z0b)))))) (Z0f (Z0L (Z0m Z0R (Z0u (r:=Z0M K) Z0r (pvF 2) Z0c (fun _ _=>rfl)) Z0g (Z0o _)) (Z0f (Z0p (Z1a (pvF 0) T.Machine.cl h_Machine_go_back hr (by decide) (Z0a (pvF 1) Z0b)))) (Z0f (Z0p (Z1a (pvF 0) T.Machine.cl h_Machine_do_own hr (by decide) (Z0a (pvF 2) (Z0a (pvF 1) Z0b))))))))))))))
  (Z0f (Z0y Z5g))))))),?_⟩
 refine seq6 fun u5 hu5 u4 hu4 u3 hu3 u2 hu2 u1 hu1=>?_
 walk_at "rd"
 obtain ⟨e0,hx,he0⟩:=M.ins
 refine ⟨C_Machine,o.dx,_,hx,T.Machine.cl,T.n_Machine_ended,_,Z7s,?_⟩
 rcases hq with ⟨hne,q⟩ | ⟨n,s2,hstep,hsz,hps,hn,q⟩
 ·obtain ⟨e,he⟩:=Option.ne_none_iff_exists'.mp hne
  rw [he] at he0
  obtain ⟨a,rfl,_⟩:=he0
  rw [if_pos (by simp)]
  exact q
 unfold Mach.step at hstep
 split at hstep
 case h_2=>cases hstep
 rename_i fr fs hen hfr
 obtain ⟨row,hrow?,hrow⟩:=Option.bind_eq_some_iff.mp hstep
 rw [hen] at he0
 obtain rfl:e0=.non:=he0
 rw [if_neg (by simp)]
 subst hu1
 walk_at "rd"
 obtain ⟨M1,k1⟩:=M.set (s':={ s' with rows:=s'.rows+1 }) (e:=.non) rfl rfl (Nat.le_refl _) rfl (by rw [hen]; rfl)
 refine ⟨C_Machine,o.dx,_,hx,T.Machine.cl,T.n_Machine_row_count,_,Z8k,_,rfl,o.dx,_,hx,Z4a,?_⟩
 rw [show ((s'.rows:Int)+1)=((s'.rows+1:Nat):Int) from rfl,J3g]
 change MAt C_Machine C_Places K ex o P' { s' with rows:=s'.rows+1 } (upd H o.x (.ins C_Machine o.dx (fsM o P' .non s'.calls s'.looks s'.hits (s'.rows+1)))) at M1
 change Keep ex H (upd H o.x (.ins C_Machine o.dx (fsM o P' .non s'.calls s'.looks s'.hits (s'.rows+1)))) at k1
 generalize upd H o.x (.ins C_Machine o.dx (fsM o P' .non s'.calls s'.looks s'.hits (s'.rows+1)))=H1 at *
 obtain ⟨e1,hx1,_⟩:=M1.ins
 obtain ⟨ss,a,c1,c2,c3⟩:=M1.top hfr
 have top:Top K H1 o P' (n+1) { s' with rows:=s'.rows+1 } a fr fs:=⟨hfr,c3,hsz.up,hps,by omega⟩
 obtain ⟨F,sa,ta,h1,h2,h3,f1,f2,hsl,hstk,l1,l2⟩:=c3.st
 obtain ⟨bs,B1,B2⟩:=M1.pr.bl
 unfold Mach.row? at hrow?
 obtain ⟨b,hb,hbr⟩:=Option.bind_eq_some_iff.mp hrow?
 obtain ⟨bv,hbv,ba,ra,rs,rfl,B3,B4,B5⟩:=Pd.at B2 hb
 obtain ⟨rv,hrv,r,rfl,hr⟩:=Pd.at B5 hbr
 subst hu2
 walk_at "rd"
 refine ⟨C_Machine,o.dx,_,hx1,T.Machine.cl,T.n_Machine_stacked,_,Z0S,o.sk,rfl,_,SqL.of c1,_,Z2d ss _,?_⟩
 subst hu3
 walk_at "rd"
 refine ⟨C_Machine,o.dx,_,hx1,T.Machine.cl,T.n_Machine_blocks,_,Z5Q,_,h1,_,ix0,o.B,rfl,_,rfl,bs,B1,_,Z0P hbv,ba,rfl,_,B3,_,ix2,_,h1,_,ix1,ra,rfl,_,rfl,rs,B4,_,Z0P hrv,?_⟩
 subst hu5
 subst hu4
 walk_at "rd"
 have dq:Does C_Machine C_Places K ex o P' H1 s2 .non (fun _ H'=>Q (.bl true) H'):=fun o' H' eo kk MM=>q o' H' eo (k1.trans kk) MM
 by_cases hio:Z9L row=true
 ·obtain ⟨nm,args,hR,n1,n2,n3,n4,n5⟩:=J1b hio hr
  refine ⟨_,hR,_,ix0,rfl,?_⟩
  rw [if_neg n1]
  refine ⟨_,hR,_,ix0,rfl,?_⟩
  rw [if_neg n2]
  refine ⟨_,hR,_,ix0,rfl,?_⟩
  rw [if_neg n3]
  refine ⟨_,hR,_,ix0,rfl,?_⟩
  rw [if_neg n4]
  refine ⟨_,hR,_,ix0,rfl,?_⟩
  rw [if_neg n5]
  exact ⟨o.dx,_,hx1,rfl,ex,o,P',_,r,a,row,n+1,fr,fs,s2,rfl,M1,top,hr,hio,hrow,dq⟩
 cases row with
 | make hh m=>
  have hR:SqT K H1 r [.str "make",.int hh,.int m]:=hr
  refine ⟨_,hR,_,ix0,rfl,?_⟩
  rw [if_pos rfl]
  exact ⟨o.dx,_,hx1,rfl,_,hR,_,ix1,_,hR,_,ix2,ex,o,P',_,a,hh,m,n+1,fr,fs,s2,rfl,M1,top,hrow,dq⟩
 | put pl=>
  have hR:SqT K H1 r [.str "put",.int pl]:=hr
  refine ⟨_,hR,_,ix0,rfl,?_⟩
  rw [if_neg (by decide)]
  refine ⟨_,hR,_,ix0,rfl,?_⟩
  rw [if_pos rfl]
  exact ⟨o.dx,_,hx1,rfl,_,hR,_,ix1,ex,o,P',_,a,pl,n+1,fr,fs,s2,rfl,M1,top,hrow,dq⟩
 | call site word many=>
  have hR:SqT K H1 r [.str "call",.int site,.int word,.int many]:=hr
  refine ⟨_,hR,_,ix0,rfl,?_⟩
  rw [if_neg (by decide)]
  refine ⟨_,hR,_,ix0,rfl,?_⟩
  rw [if_neg (by decide)]
  refine ⟨_,hR,_,ix0,rfl,?_⟩
  rw [if_pos rfl]
  obtain ⟨k,rest,t,bb,s1,hc1,hc2,hc3,hc4,hc5⟩:=J0A hrow
  refine ⟨o.dx,_,hx1,rfl,o.dx,_,hx1,rfl,_,hR,_,ix1,_,hR,_,ix2,_,hR,_,ix3,?_⟩
  refine ⟨ex,o,P',_,a,site,word,many,n+1,k,fr,fs,rest,t,bb,s1,rfl,M1,top,hc1,hc2,hc3,hc4,fun H2 k2 M2=>?_⟩
  obtain ⟨a1,a2,a3,a4,a5,a6,a7⟩:=Mach.found_sz top.sz hc4
  have hs1:Mach.Sz (n+1) s1:=⟨by rw [a1]; exact top.sz.fr,by rw [a1]; exact top.sz.fl,by rw [a2]; exact top.sz.md,by rw [a2]; exact top.sz.mi,by have:=hsz.lh; rw [a6]; show s'.looks+s'.hits+1≤_; omega,a7⟩
  have top2:Top K H2 o P' (n+1) s1 a fr fs:=⟨by rw [a1]; exact hfr,c3.t k2.t,hs1,hps,by omega⟩
  exact ⟨_,SqT.t hR k2.t,_,ix3,ex,o,P',s1,a,bb,many,n+1,fr,fs,s2,rfl,M2,top2,hc5,fun o' H' eo kk MM=>q o' H' eo (k1.trans (k2.trans kk)) MM⟩
 | straight bl many=>
  have hR:SqT K H1 r [.str "straight",.int bl,.int many]:=hr
  refine ⟨_,hR,_,ix0,rfl,?_⟩
  rw [if_neg (by decide)]
  refine ⟨_,hR,_,ix0,rfl,?_⟩
  rw [if_neg (by decide)]
  refine ⟨_,hR,_,ix0,rfl,?_⟩
  rw [if_neg (by decide)]
  refine ⟨_,hR,_,ix0,rfl,?_⟩
  rw [if_pos rfl]
  exact ⟨o.dx,_,hx1,rfl,_,hR,_,ix1,_,hR,_,ix2,ex,o,P',_,a,bl,many,n+1,fr,fs,s2,rfl,M1,top,hrow,dq⟩
 | back=>
  have hR:SqT K H1 r [.str "back"]:=hr
  refine ⟨_,hR,_,ix0,rfl,?_⟩
  rw [if_neg (by decide)]
  refine ⟨_,hR,_,ix0,rfl,?_⟩
  rw [if_neg (by decide)]
  refine ⟨_,hR,_,ix0,rfl,?_⟩
  rw [if_neg (by decide)]
  refine ⟨_,hR,_,ix0,rfl,?_⟩
  rw [if_neg (by decide)]
  refine ⟨_,hR,_,ix0,rfl,?_⟩
  rw [if_pos rfl]
  exact ⟨o.dx,_,hx1,rfl,ex,o,P',_,a,n+1,fr,fs,s2,rfl,M1,top,hrow,dq⟩
 | _=>exact absurd rfl hio
end
end K65
end
section
namespace K65
open PySem L2 MM
open Mach (AV AFr Row Sg Blk MS PL Mem getP updM seen Z0K Bd)
seal L2.PE L2.PA L2.PT L2.PS L2.PSs L2.PG L2.PGs L2.PI L2.PW
def Z4o (b:Blk) (k:Nat) (ns:List Int):MS:=⟨[⟨k,0,ns.map AV.int++List.replicate (b.size - ns.length) .non,[]⟩],[],none,0,0,0,0,fun _=>none⟩
inductive Z7e (CM CP:Addr) (K:W.Frag) (vs:List V) (H:Hp) (Q:VK):Prop
 | mk (ex:Addr→Prop) (x dx bl tl nl:Addr) (P:Mach.Prog) (bs tvs:List V) (ns:List Int) (b:Blk) (front:List Blk) (a1:vs=[.ref x,.ref bl,.ref tl,.ref nl,.int P.most,.bl P.rem]) (a2:H x=some (.ins CM dx [])) (a3:SqL K H bl bs) (a4:Paired (BlkAt K H) bs P.blocks) (a5:P.blocks=front++[b]) (a6:SqL K H tl tvs) (a7:Paired (fun v t=>∃ ta,v=.ref ta∧SqL K H ta (t.map tabV)) tvs P.tables) (a8:SqL K H nl (ns.map V.int)) (a9:(∀ n∈ns,Bd n)) (a10:ns.length≤b.size) (a11:b.size < 900) (a12:P.blocks.length < 900) (a13:P.tables.length < 900) (a14:¬ ex x∧(∀ a,ex a→H a≠none)∧∀ o H',o.x=x→SameX x H H'→MAt CM CP K ex o P (Z4o b front.length ns) H'→Q .non H'):Z7e CM CP K vs H Q
def Z6V (CM CP:Addr) (K:W.Frag):Sp:=fun vs H Q _=>Z7e CM CP K vs H Q
theorem sx_t {x C dx:Addr} {fs:List (Str×V)} {H H':Hp} (s:SameX x H H') (h:H x=some (.ins C dx fs)):SameT H H':=fun c xs=>⟨fun e=>s _ _ (Z1l e h (fun z=>by cases z)) e,fun o e=>s _ _ (Z1l e h (fun z=>by cases z)) e⟩
theorem sx_l {K:W.Frag} {x C dx a:Addr} {fs:List (Str×V)} {xs:List V} {H H':Hp} (s:SameX x H H') (h:H x=some (.ins C dx fs)) (q:SqL K H a xs):SqL K H' a xs:=by
 rcases q with (q | ⟨o,q⟩) | q
 ·exact .inl (.inl (s _ _ (Z1l q h (fun z=>by cases z)) q))
 ·exact .inl (.inr ⟨o,s _ _ (Z1l q h (fun z=>by cases z)) q⟩)
 ·exact .inr q
theorem Z3s {α β:Type} {R:α→β→Prop}:∀ {xs:List α} {ys:List β},xs.length=ys.length→(∀ (j:Nat) x y,xs[j]?=some x→ys[j]?=some y→R x y)→Paired R xs ys
 | [],[],_,_=>.nil
 | x::xs,y::ys,e,h=>.cons (h 0 x y rfl rfl) (Z3s (Nat.succ.inj e) fun j a b ha hb=>h (j+1) a b (by simpa using ha) (by simpa using hb))
theorem Z8X {K:W.Frag} {H:Hp}:∀ {ns:List Int},(∀ n∈ns,Bd n)→AtVs K H (ns.map V.int) (ns.map AV.int)
 | [],_=>.nil
 | n::ns,h=>.cons ⟨rfl,h n List.mem_cons_self⟩ (Z8X fun m hm=>h m (List.mem_cons_of_mem _ hm))
theorem Z8j {K:W.Frag} {H:Hp}:∀ k,AtVs K H (List.replicate k V.non) (List.replicate k AV.non)
 | 0=>.nil
 | k+1=>.cons rfl (Z8j k)
theorem Z6L {ex:Addr→Prop} {H H':Hp} {x p:Addr} (hx:¬ ex x) (h:∀ a,ex a→H a≠none) (s:SameX x H H') (e:H' p=none):¬ ex p:=fun z=>by
 obtain ⟨u,hu⟩:=Option.ne_none_iff_exists'.mp (h p z)
 exact Z0t (s _ _ (fun y=>hx (y▸z)) hu) e rfl
theorem Z9b {C:Addr} {H:Hp} {x dx d:Addr} (hx:H x=none) (hdx:H dx=none) (ne:¬ dx=x) (hd:upd (upd H dx (.own x)) x (.ins C dx []) d=none) :
  Same H (upd (upd (upd (upd H dx (.own x)) x (.ins C dx [])) d (.dK [])) x (.ins C dx [("by_site",.ref d)]))∧upd (upd (upd (upd H dx (.own x)) x (.ins C dx [])) d (.dK [])) x (.ins C dx [("by_site",.ref d)]) d=some (.dK [])∧H d=none:=by
 have s1:Same H (upd H dx (.own x)):=Z0i hdx _
 have s2:Same (upd H dx (.own x)) (upd (upd H dx (.own x)) x (.ins C dx [])):=Z0i (by rw [Z0h (fun z=>ne z.symm)]; exact hx) _
 have s3:=Z0i hd (.dK [])
 have s13:=(s1.trans s2).trans s3
 have nd:d≠x:=fun z=>by rw [z,Z0e] at hd; cases hd
 refine ⟨fun b u hb=>?_,?_,(s1.trans s2).free hd⟩
 ·rw [Z0h (Z0t hb hx)]
  exact s13 b u hb
 ·rw [Z0h nd]
  exact Z0e
section
variable {C_Places C_Machine D_ROW_SIGNS:Addr} {P:Program} {w:World} {K:W.Frag} {mg:Str→Option Value} {base:Heap}
theorem J1g (T:Txt P w K mg C_Places C_Machine D_ROW_SIGNS) (np nk nd:Nat) (ks:List Str) (h_Places___init__:HasM P w K mg base 1 C_Places "__init__" ["self"] (Z7f C_Places)) (h_entered:Has P w K mg base 1 "entered" ["block","number","values"] (Z3J K))
  (hb:∀ (kV doc pm:Value) (an:Option Addr) (cdv ct:Value) (dA:Addr) (u1 u2:Value) (us ws:List Value),us.length=np→ws.length=nk →
   ∃ k,bindArgs (W.fnOf "__init__" "Machine.__init__" (Z1p Z0J) (Z1b Z0J) (Z0j Z0J) (.ref dA) kV doc pm an cdv ct) ⟨us,ks.zip ws⟩=seqItems? (.ref dA) >>= k∧k (some #[u1,u2])=pure ((["self","blocks","tables","numbers","most","remembers"]:List Str).zip (us++ws++[u1,u2].drop (2 - nd)))) :
  HasD P w K mg base 3 C_Machine "__init__" ["self","blocks","tables","numbers","most","remembers"] (Z6V C_Machine C_Places K) ks (Z3f np nk ([V.int 100,V.bl true].drop (2 - nd))):=by
 refine HasD.of np nk nd T.m_Machine___init__ Z3n (by decide) hb (fun vs H Q E h=>?_) (fun f cdv A outer s H vs Q E hr h=>?_)
 ·obtain ⟨ex,x,dx,bl,tl,nl,P,bs,tvs,ns,b,front,rfl,_⟩:=h
  rfl
 obtain ⟨ex,x,dx,bl,tl,nl,P',bs,tvs,ns,b,front,rfl,hx,hbl,hbs,hfr,htl,htv,hnl,hns,hnb,hbz,lb,lt,hexx,hexs,q⟩:=h
 refine ⟨_,(Z0d (Z1w (pvF 0) (Z1r Z1B rfl T.z_tuple Z2Z (Z0a (pvF 1) Z0b)) rfl)
  (Z0d (Z1w (pvF 0) (Z1r Z1B rfl T.z_tuple Z2Z (Z0a (Z3T rfl (BlockOk.plain (N:=["table"]) rfl (by decide +kernel) (by decide +kernel) (by decide +kernel)) (Z3l (pvF 2))
     (fun C fp s H=>(Z0v (i:=0) (show (["table"]:List Str).Nodup by decide +kernel) rfl (Or.inl rfl)))
     (fun C fp s H=>(Z1r (r:=J1M K) Z1B rfl T.z_tuple Z2Z (Z0a (pvF 0) Z0b)))) Z0b)) rfl)
  (Z0d (Z1w (pvF 0) (pvF 4) rfl)
  (Z0d (Z1w (pvF 0) (pvF 5) rfl)
  (Z0d (Z1w (pvF 0) (J2x T.Places h_Places___init__ hr (by decide) rfl) rfl)
  (Z0d (Z1w (pvF 0) (Z0D (Z0a (Z0x h_entered hr (by decide) rfl (Z0a (Z0u (r:=Z0M K) Z0r (Z0H (pvF 0) rfl) (Z2L Z1N Z0c) (fun _ _=>rfl)) (Z0a (Z0k Z2r (Z0q Z0l rfl T.z_len Z0O (Z0a (Z0H (pvF 0) rfl) Z0b)) Z0c) (Z0a (pvF 3) Z0b)))) Z0b)) rfl)
  (Z0d (Z1w (pvF 0) (Z0D Z0b) rfl)
  (Z0d (Z1w (pvF 0) Z1E rfl)
  (Z0d (Z1w (pvF 0) Z0c rfl)
  (Z0d (Z1w (pvF 0) Z0c rfl)
  (Z0d (Z1w (pvF 0) Z0c rfl)
  (Z0f (Z1w (pvF 0) Z0c rfl))))))))))))),?_⟩
 refine J4s fun uz11 huz11 uz10 huz10 uz9 huz9 uz8 huz8 uz7 huz7 uz6 huz6 uz5 huz5 uz4 huz4 uz3 huz3 uz2 huz2 uz1 huz1=>?_
 walk_at "rd"
 refine ⟨bs,.inl ⟨hbl,fun l hl=>?_⟩⟩
 have u1:=Z0i hl (.tup bs)
 refine ⟨C_Machine,dx,_,u1 _ _ hx,T.Machine.cl,T.n_Machine_blocks,Nat.lt_of_sub_eq_succ rfl,?_⟩
 have S1:SameX x H (upd (upd H l (.tup bs)) x (.ins C_Machine dx (putF "blocks" (.ref l) []))):=(Same.x u1 x).trans (Z1c _)
 have X1:upd (upd H l (.tup bs)) x (.ins C_Machine dx (putF "blocks" (.ref l) [])) x=some (.ins C_Machine dx (putF "blocks" (.ref l) [])):=Z0e
 have L1:upd (upd H l (.tup bs)) x (.ins C_Machine dx (putF "blocks" (.ref l) [])) l=some (.tup bs):=by
  rw [Z0h (fun z=>Z0t hx hl z.symm)]; exact Z0e
 clear u1 hl
 generalize upd (upd H l (.tup bs)) x (.ins C_Machine dx (putF "blocks" (.ref l) []))=H1 at *
 have tl1:=sx_l S1 hx htl
 subst huz1
 walk_at "rd"
 refine ⟨⟨_,tl1⟩,fun D hD=>?_⟩
 have ltv:tvs.length=P'.tables.length:=Paired.length htv
 refine Z4N (ys:=tvs) none [] (fun j v H=>∃ p t,v=.ref p∧P'.tables[j]?=some t∧H p=some (.tup (t.map tabV))) (fun j v H1 H2 ⟨p,t,a,b,c⟩ s=>⟨p,t,a,b,s _ _ (fun xs z=>by cases z) c⟩) rfl hD (by rw [sizeLine_eq]; omega) (fun H2 s=>tl1.same s) (fun i y hy H2 K' s k=>?_) (fun vs H2 s2 hv hlv hR=>?_)
 ·walk_at "rd"
  have hi:i < P'.tables.length:=by rw [← ltv]; exact (List.getElem?_eq_some_iff.mp hy).1
  obtain ⟨y',hy',ta,rfl,hta⟩:=Pd.at htv (List.getElem?_eq_getElem hi)
  rw [hy] at hy'
  cases hy'
  exact ⟨ta,rfl,_,.inl ⟨(sx_l S1 hx hta).same s,fun p hp=>k _ _ (Z0i hp _) ⟨p,_,rfl,List.getElem?_eq_getElem hi,Z0e⟩⟩⟩
 refine ⟨D,rfl,vs,.inl ⟨SqL.of hv,fun l2 hl2=>?_⟩⟩
 have u2:=Z0i hl2 (.tup vs)
 refine ⟨C_Machine,dx,_,u2 _ _ (s2 _ _ X1),T.Machine.cl,T.n_Machine_house_tables,Nat.lt_of_sub_eq_succ rfl,?_⟩
 subst huz2
 walk_at "rd"
 refine ⟨C_Machine,dx,_,Z0e,T.Machine.cl,T.n_Machine_most,Nat.lt_of_sub_eq_succ rfl,?_⟩
 subst huz3
 walk_at "rd"
 refine ⟨C_Machine,dx,_,Z0e,T.Machine.cl,T.n_Machine_remembers,Nat.lt_of_sub_eq_succ rfl,?_⟩
 subst huz4
 walk_at "rd"
 intro pl dp hpl hdp ndp
 simp only [Z6p] at hpl hdp ⊢
 have S2:SameX x H1 (upd (upd H2 l2 (.tup vs)) x (.ins C_Machine dx (putF "remembers" (.bl P'.rem) (putF "most" (.int P'.most) (putF "house_tables" (.ref l2) (putF "blocks" (.ref l) [])))))):=(Same.x (s2.trans u2) x).trans (Z1c _)
 have nl2:l2≠x:=fun z=>Z0t (s2 _ _ X1) hl2 z.symm
 have X2:upd (upd H2 l2 (.tup vs)) x (.ins C_Machine dx (putF "remembers" (.bl P'.rem) (putF "most" (.int P'.most) (putF "house_tables" (.ref l2) (putF "blocks" (.ref l) []))))) x=some (.ins C_Machine dx (putF "remembers" (.bl P'.rem) (putF "most" (.int P'.most) (putF "house_tables" (.ref l2) (putF "blocks" (.ref l) []))))):=Z0e
 have LL2:upd (upd H2 l2 (.tup vs)) x (.ins C_Machine dx (putF "remembers" (.bl P'.rem) (putF "most" (.int P'.most) (putF "house_tables" (.ref l2) (putF "blocks" (.ref l) []))))) l2=some (.tup vs):=by
  rw [Z0h nl2]; exact Z0e
 have R2:∀ (j:Nat) v,vs[j]?=some v→∃ p t,v=.ref p∧P'.tables[j]?=some t∧upd (upd H2 l2 (.tup vs)) x (.ins C_Machine dx (putF "remembers" (.bl P'.rem) (putF "most" (.int P'.most) (putF "house_tables" (.ref l2) (putF "blocks" (.ref l) []))))) p=some (.tup (t.map tabV)):=fun j v hj=>by
  obtain ⟨p,t,a,b,c⟩:=hR j v hj
  exact ⟨p,t,a,b,(sx_t (Z1c _) (u2 _ _ (s2 _ _ X1)) p _).1 (u2 _ _ c)⟩
 clear u2 hl2
 generalize upd (upd H2 l2 (.tup vs)) x (.ins C_Machine dx (putF "remembers" (.bl P'.rem) (putF "most" (.int P'.most) (putF "house_tables" (.ref l2) (putF "blocks" (.ref l) [])))))=H3 at *
 refine ⟨pl,dp,rfl,Z0e,fun d hd=>⟨rfl,?_⟩⟩
 obtain ⟨s3,hd3,hd0⟩:=Z9b hpl hdp ndp hd
 have P3:upd (upd (upd (upd H3 dp (.own pl)) pl (.ins C_Places dp [])) d (.dK [])) pl (.ins C_Places dp [("by_site",.ref d)]) pl=some (.ins C_Places dp [("by_site",.ref d)]):=Z0e
 have npl:x≠pl:=Z0t X2 hpl
 have nd:d≠x:=fun z=>Z0t X2 hd0 z.symm
 have xpl:¬ ex pl:=Z6L hexx hexs (S1.trans S2) hpl
 have xd:¬ ex d:=Z6L hexx hexs (S1.trans S2) hd0
 clear hpl hdp ndp hd
 generalize upd (upd (upd (upd H3 dp (.own pl)) pl (.ins C_Places dp [])) d (.dK [])) pl (.ins C_Places dp [("by_site",.ref d)])=H4 at *
 refine ⟨C_Machine,dx,_,s3 _ _ X2,T.Machine.cl,T.n_Machine_places,Nat.lt_of_sub_eq_succ rfl,?_⟩
 have S5:SameX x H3 (upd H4 x (.ins C_Machine dx (putF "places" (.ref pl) (putF "remembers" (.bl P'.rem) (putF "most" (.int P'.most) (putF "house_tables" (.ref l2) (putF "blocks" (.ref l) []))))))):=(Same.x s3 x).trans (Z1c _)
 have X5:upd H4 x (.ins C_Machine dx (putF "places" (.ref pl) (putF "remembers" (.bl P'.rem) (putF "most" (.int P'.most) (putF "house_tables" (.ref l2) (putF "blocks" (.ref l) [])))))) x=some (.ins C_Machine dx (putF "places" (.ref pl) (putF "remembers" (.bl P'.rem) (putF "most" (.int P'.most) (putF "house_tables" (.ref l2) (putF "blocks" (.ref l) [])))))):=Z0e
 have P5:upd H4 x (.ins C_Machine dx (putF "places" (.ref pl) (putF "remembers" (.bl P'.rem) (putF "most" (.int P'.most) (putF "house_tables" (.ref l2) (putF "blocks" (.ref l) [])))))) pl=some (.ins C_Places dp [("by_site",.ref d)]):=by rw [Z0h (fun z=>npl z.symm)]; exact P3
 have D5:upd H4 x (.ins C_Machine dx (putF "places" (.ref pl) (putF "remembers" (.bl P'.rem) (putF "most" (.int P'.most) (putF "house_tables" (.ref l2) (putF "blocks" (.ref l) [])))))) d=some (.dK []):=by rw [Z0h nd]; exact hd3
 clear s3 P3 hd3
 generalize upd H4 x (.ins C_Machine dx (putF "places" (.ref pl) (putF "remembers" (.bl P'.rem) (putF "most" (.int P'.most) (putF "house_tables" (.ref l2) (putF "blocks" (.ref l) []))))))=H5 at *
 have S15:SameX x H1 H5:=S2.trans S5
 have S05:SameX x H H5:=S1.trans S15
 have T35:=sx_t S5 X2
 have T05:=sx_t S05 hx
 have L5:=(sx_t S15 X1 l bs).1 L1
 rw [hfr] at hbs
 obtain ⟨bs0,bv,ebs,hbs0,ba,ra,rs,rfl,hb1,hb2,hb3⟩:=Pd.snoc_inv hbs
 have lbs:bs0.length=front.length:=Paired.length hbs0
 have eat:atI bs (-1)=some (.ref ba):=by rw [ebs]; exact Z2d _ _
 subst huz5
 walk_at "rd"
 refine ⟨C_Machine,dx,_,X5,T.Machine.cl,T.n_Machine_blocks,.ref l,rfl,l,rfl,bs,SqT.of L5,_,eat,C_Machine,dx,_,X5,T.Machine.cl,T.n_Machine_blocks,.ref l,rfl,l,rfl,bs,.inr (SqT.of L5),?_⟩
 refine ⟨ba,nl,_,_,_,b.size,_,rfl,SqT.t hb1 T05,.inl (sx_l S05 hx hnl),by rw [List.length_map]; exact hnb,by omega,fun pf H6 s6 hf6=>?_⟩
 intro sk hsk
 have u7:=Z0i hsk (.lst [.ref pf])
 have xsk:¬ ex sk:=Z6L hexx hexs (S05.trans (Same.x s6 x)) hsk
 have nsk:sk≠x:=fun z=>Z0t (s6 _ _ X5) hsk z.symm
 refine ⟨C_Machine,dx,_,u7 _ _ (s6 _ _ X5),T.Machine.cl,T.n_Machine_stacked,Nat.lt_of_sub_eq_succ rfl,?_⟩
 subst huz6
 walk_at "rd"
 intro md hmd
 have S57:SameX x H5 (upd (upd H6 sk (.lst [.ref pf])) x (.ins C_Machine dx (putF "stacked" (.ref sk) (putF "places" (.ref pl) (putF "remembers" (.bl P'.rem) (putF "most" (.int P'.most) (putF "house_tables" (.ref l2) (putF "blocks" (.ref l) [])))))))):=(Same.x (s6.trans u7) x).trans (Z1c _)
 have X7:upd (upd H6 sk (.lst [.ref pf])) x (.ins C_Machine dx (putF "stacked" (.ref sk) (putF "places" (.ref pl) (putF "remembers" (.bl P'.rem) (putF "most" (.int P'.most) (putF "house_tables" (.ref l2) (putF "blocks" (.ref l) []))))))) x=some (.ins C_Machine dx (putF "stacked" (.ref sk) (putF "places" (.ref pl) (putF "remembers" (.bl P'.rem) (putF "most" (.int P'.most) (putF "house_tables" (.ref l2) (putF "blocks" (.ref l) []))))))):=Z0e
 have K7:upd (upd H6 sk (.lst [.ref pf])) x (.ins C_Machine dx (putF "stacked" (.ref sk) (putF "places" (.ref pl) (putF "remembers" (.bl P'.rem) (putF "most" (.int P'.most) (putF "house_tables" (.ref l2) (putF "blocks" (.ref l) []))))))) sk=some (.lst [.ref pf]):=by rw [Z0h nsk]; exact Z0e
 have T67:SameT H6 (upd (upd H6 sk (.lst [.ref pf])) x (.ins C_Machine dx (putF "stacked" (.ref sk) (putF "places" (.ref pl) (putF "remembers" (.bl P'.rem) (putF "most" (.int P'.most) (putF "house_tables" (.ref l2) (putF "blocks" (.ref l) [])))))))):=(Same.t u7).trans (sx_t (Z1c _) (u7 _ _ (s6 _ _ X5)))
 have hf7:=FrAt.t hf6 T67
 clear u7 hsk T67
 generalize upd (upd H6 sk (.lst [.ref pf])) x (.ins C_Machine dx (putF "stacked" (.ref sk) (putF "places" (.ref pl) (putF "remembers" (.bl P'.rem) (putF "most" (.int P'.most) (putF "house_tables" (.ref l2) (putF "blocks" (.ref l) [])))))))=H7 at *
 have u8:=Z0i hmd (.lst [])
 have xmd:¬ ex md:=Z6L hexx hexs (S05.trans S57) hmd
 have nmd:md≠x:=fun z=>Z0t X7 hmd z.symm
 have nsm:sk≠md:=Z0t K7 hmd
 refine ⟨C_Machine,dx,_,u8 _ _ X7,T.Machine.cl,T.n_Machine_made,Nat.lt_of_sub_eq_succ rfl,?_⟩
 subst huz7
 walk_at "rd"
 refine ⟨C_Machine,dx,_,Z0e,T.Machine.cl,T.n_Machine_ended,Nat.lt_of_sub_eq_succ rfl,?_⟩
 subst huz8
 walk_at "rd"
 refine ⟨C_Machine,dx,_,Z0e,T.Machine.cl,T.n_Machine_call_count,Nat.lt_of_sub_eq_succ rfl,?_⟩
 subst huz9
 walk_at "rd"
 refine ⟨C_Machine,dx,_,Z0e,T.Machine.cl,T.n_Machine_look_count,Nat.lt_of_sub_eq_succ rfl,?_⟩
 subst huz10
 walk_at "rd"
 refine ⟨C_Machine,dx,_,Z0e,T.Machine.cl,T.n_Machine_hit_count,Nat.lt_of_sub_eq_succ rfl,?_⟩
 subst huz11
 walk_at "rd"
 refine ⟨C_Machine,dx,_,Z0e,T.Machine.cl,T.n_Machine_row_count,Nat.lt_of_sub_eq_succ rfl,?_⟩
 simp only [Z6p]
 change Q .non (upd (upd H7 md (.lst [])) x (.ins C_Machine dx (fsM ⟨x,dx,l,l2,pl,dp,d,sk,md⟩ P' .non 0 0 0 0)))
 have S7f:SameX x H7 (upd (upd H7 md (.lst [])) x (.ins C_Machine dx (fsM ⟨x,dx,l,l2,pl,dp,d,sk,md⟩ P' .non 0 0 0 0))):=(Same.x u8 x).trans (Z1c _)
 have Xf:upd (upd H7 md (.lst [])) x (.ins C_Machine dx (fsM ⟨x,dx,l,l2,pl,dp,d,sk,md⟩ P' .non 0 0 0 0)) x=some (.ins C_Machine dx (fsM ⟨x,dx,l,l2,pl,dp,d,sk,md⟩ P' .non 0 0 0 0)):=Z0e
 have Mf:upd (upd H7 md (.lst [])) x (.ins C_Machine dx (fsM ⟨x,dx,l,l2,pl,dp,d,sk,md⟩ P' .non 0 0 0 0)) md=some (.lst []):=by rw [Z0h nmd]; exact Z0e
 generalize upd (upd H7 md (.lst [])) x (.ins C_Machine dx (fsM ⟨x,dx,l,l2,pl,dp,d,sk,md⟩ P' .non 0 0 0 0))=Hf at *
 have S5f:SameX x H5 Hf:=S57.trans S7f
 have S0f:SameX x H Hf:=S05.trans S5f
 have T5f:=sx_t S5f X5
 have T7f:=sx_t S7f X7
 refine q ⟨x,dx,l,l2,pl,dp,d,sk,md⟩ Hf rfl S0f ⟨⟨.non,Xf,rfl⟩,⟨⟨bs,SqT.of ((T5f l bs).1 L5),?_⟩,⟨vs,SqT.of ((T5f l2 vs).1 ((T35 l2 vs).1 LL2)),?_⟩⟩,S5f _ _ (fun z=>npl z.symm) P5,⟨[],S5f _ _ nd D5,Nat.le_refl _,fun k=>rfl⟩,⟨[.ref pf],S7f _ _ nsk K7,.cons ⟨pf,rfl,_,FrAt.t hf7 T7f,?_,rfl,?_,.nil⟩ .nil⟩,⟨[],Mf,.nil⟩,npl,nsm,⟨hexx,xpl,xd,xsk,xmd⟩,fun y hy=>?_⟩
 ·rw [hfr]
  exact Pd.imp (fun _ _ q=>BlkAt.t q (sx_t S0f hx)) hbs
 ·refine Z3s (hlv.trans ltv) fun j v t hv ht=>?_
  obtain ⟨p,t',rfl,e,hp⟩:=R2 j v hv
  rw [ht] at e
  cases e
  exact ⟨p,rfl,SqT.of ((T5f p _).1 ((T35 p _).1 hp))⟩
 ·show V.int ((bs.length:Int) - 1)=V.int (front.length:Int)
  rw [ebs,List.length_append,lbs]
  show V.int (((front.length+1:Nat):Int) - 1)=_
  congr 1
  omega
 ·show AtVs K Hf (ns.map V.int++List.replicate (b.size - (ns.map V.int).length) V.non) (ns.map AV.int++List.replicate (b.size - ns.length) AV.non)
  rw [List.length_map]
  exact Pd.app (Z8X hns) (Z8j _)
 ·obtain ⟨u,hu⟩:=Option.ne_none_iff_exists'.mp (hexs y hy)
  rw [S0f _ _ (fun z=>hexx (z▸hy)) hu]; simp
end
end K65
end
section
set_option format.width 300
namespace K65
open PySem L2 MM
open Mach (AV AFr Row Sg Blk MS PL Mem getP updM seen Z0K Bd)
seal L2.PE L2.PA L2.PT L2.PS L2.PSs L2.PG L2.PGs L2.PI L2.PW
inductive Z9J (K:W.Frag) (vs:List V) (H:Hp) (Q:VK):Prop
 | mk (a:Addr) (ns:List Int) (k:Nat) (a1:vs=[.ref a,.int k]) (a2:SqL K H a (ns.map V.int)) (a3:∀ c,Q (.int c) H):Z9J K vs H Q
def Z5h (K:W.Frag):Sp:=fun vs H Q _=>Z9J K vs H Q
inductive Z7j (vs:List V) (H:Hp) (Q:VK):Prop
 | mk (c k:Int) (a1:vs=[.int c,.int k]) (a2:∀ r:Nat,r < 2147483647→Q (.int r) H):Z7j vs H Q
def Z2Y:Sp:=fun vs H Q _=>Z7j  vs H Q
inductive Z6k (vs:List V) (H:Hp) (Q:VK):Prop
 | mk (c:Int) (a1:vs=[.int c]) (a2:∀ r,Bd r→Q (.int r) H):Z6k vs H Q
def Z3v:Sp:=fun vs H Q _=>Z6k  vs H Q
section
variable {C_Places C_Machine D_ROW_SIGNS:Addr} {P:Program} {w:World} {K:W.Frag} {mg:Str→Option Value} {base:Heap}
theorem J2O (T:Txt P w K mg C_Places C_Machine D_ROW_SIGNS):Has P w K mg base 1 "_law_cell_at" ["_law_script","_law_k"] (Z5h K):=by
 refine Has.of T.f__law_cell_at Z4m (fun _ _ _ _ _ _ us hl=>el2 us hl fun _ _=>rfl) (fun vs H Q E h=>?_) (fun f cdv A outer s H vs Q E hr h=>?_)
 ·obtain ⟨a,ns,k,rfl,_⟩:=h
  rfl
 obtain ⟨a,ns,k,rfl,sq,q⟩:=h
 refine ⟨_,(Z0d (Z0L (Z0m Z4B (pvF 1) (Z0q Z0l rfl T.z_len Z0O (Z0a (pvF 0) Z0b)) (Z0o _)) (Z0f (Z0y (Z0u (r:=Z0U K) Z0w (pvF 0) (pvF 1) (fun _ _=>rfl)))) Z0C)
  (Z0f (Z0y Z0c))),?_⟩
 walk_at "rd"
 refine ⟨_,.inl sq,ite2 (fun h=>?_) fun _=>q _⟩
 rw [List.length_map] at h
 have hk:k < ns.length:=by omega
 exact ⟨_,sq,_,Z0P (show (ns.map V.int)[k]?=some (.int ns[k]) by rw [List.getElem?_map,List.getElem?_eq_getElem hk]; rfl),q _⟩
theorem J0J (T:Txt P w K mg C_Places C_Machine D_ROW_SIGNS):Has P w K mg base 1 "_law_mixed" ["_law_cell","_law_k"] Z2Y:=by
 refine Has.of T.f__law_mixed sc__law_mixed (fun _ _ _ _ _ _ us hl=>el2 us hl fun _ _=>rfl) (fun vs H Q E h=>?_) (fun f cdv A outer s H vs Q E hr h=>?_)
 ·obtain ⟨c,k,rfl,_⟩:=h
  rfl
 obtain ⟨c,k,rfl,q⟩:=h
 refine ⟨_,(Z0d (Z0I (i:=2) sc__law_mixed.nd rfl (Or.inl rfl) (Z0k Z0G (Z0k Z0N (Z0k Z0N (Z0k Z2B (pvF 0) Z0c) (Z0k Z2B Z0c (pvF 1))) Z0c) Z0c))
  (Z0f (Z0y (Z0k Z0G (Z0k Z2B (Z0k Z0G (Z0k Z2B (pvF 2) (pvF 2)) Z0c) (pvF 2)) Z0c)))),?_⟩
 walk_at "rd"
 have n0:0≤(c * 48271+7919 * k+12345) % 2147483647:=Int.emod_nonneg _ (by first | decide | omega)
 have n1:(c * 48271+7919 * k+12345) % 2147483647 < 2147483647:=Int.emod_lt_of_pos _ (by first | decide | omega)
 generalize (c * 48271+7919 * k+12345) % 2147483647=n at *
 refine ⟨.inl ⟨by omega,by omega⟩,.inr ⟨by omega,by omega⟩,?_⟩
 have r0:0≤(n * n % 2147483647 * n) % 2147483647:=Int.emod_nonneg _ (by first | decide | omega)
 have r1:(n * n % 2147483647 * n) % 2147483647 < 2147483647:=Int.emod_lt_of_pos _ (by first | decide | omega)
 have:=q (n * n % 2147483647 * n % 2147483647).toNat (by omega)
 rw [Int.toNat_of_nonneg r0] at this
 exact this
theorem Z8V (T:Txt P w K mg C_Places C_Machine D_ROW_SIGNS):Has P w K mg base 1 "_law_number" ["_law_cell"] Z3v:=by
 refine Has.of T.f__law_number Z4D (fun _ _ _ _ _ _ us hl=>el1 us hl fun _=>rfl) (fun vs H Q E h=>?_) (fun f cdv A outer s H vs Q E hr h=>?_)
 ·obtain ⟨c,rfl,_⟩:=h
  rfl
 obtain ⟨c,rfl,q⟩:=h
 refine ⟨_,(Z0d (Z0L (Z0m Z0R (Z0k Z0G (pvF 0) Z0c) Z0c (Z0o _)) (Z0f (Z0y (Z0k Z2B (Z0k Z2r Z0c (Z0k Z2B Z0c (Z0k Z0G (Z0k Z0E (pvF 0) Z0c) Z0c))) (Z0k Z2r (Z0k Z8A Z0c Z0c) (Z0k Z0G (Z0k Z0E (pvF 0) Z0c) Z0c))))) Z0C)
  (Z0d (Z0L (Z0m Z0R (Z0k Z0G (pvF 0) Z0c) Z0c (Z0o _)) (Z0f (Z0y (Z0k Z2r (Z0k Z0G (Z0k Z2B (pvF 0) Z0c) (Z0k Z0N (Z0k Z2B Z0c (Z0k Z8A Z0c Z0c)) Z0c)) (Z0k Z8A Z0c Z0c)))) Z0C)
  (Z0f (Z0y (Z0k Z2r (Z0k Z0G (Z0k Z0E (pvF 0) Z0c) Z0c) Z0c))))),?_⟩
 walk_at "rd"
 refine ite2 (fun _=>⟨.inl ⟨by omega,by omega⟩,q _ ?_⟩) (fun _=>ite2 (fun _=>q _ ⟨by omega,by omega⟩) (fun _=>q _ ⟨by omega,by omega⟩))
 rcases (show c / 7 % 2=0∨c / 7 % 2=1 by omega) with e | e
 ·rw [e]; exact ⟨by omega,by omega⟩
 ·rw [e]; exact ⟨by omega,by omega⟩
end
end K65
end
section
set_option format.width 300
namespace K65
open PySem L2 MM
open Mach (AV AFr Row Sg Blk MS PL Mem getP updM seen Z0K Bd)
seal L2.PE L2.PA L2.PT L2.PS L2.PSs L2.PG L2.PGs L2.PI L2.PW
open MT (Kd fk Wo VT Seg Sf)
structure Ch (ls:List Addr) (H H':Hp):Prop where
 t:SameT H H'
 k:∀ b o,b∉ls→H b=some o→H' b=some o
theorem Ch.of {ls:List Addr} {H H':Hp} (s:Same H H'):Ch ls H H':=⟨Same.t s,fun b o _ h=>s b o h⟩
theorem Ch.refl {ls:List Addr} {H:Hp}:Ch ls H H:=.of (Same.refl _)
theorem Ch.trans {ls:List Addr} {H H1 H2:Hp} (a:Ch ls H H1) (b:Ch ls H1 H2):Ch ls H H2:=⟨a.t.trans b.t,fun c o n h=>b.k c o n (a.k c o n h)⟩
theorem Ch.put {ls:List Addr} {H:Hp} {a:Addr} {xs:List V} (o:HO) (h:H a=some (.lst xs)) (m:a∈ls):Ch ls H (upd H a o):=⟨Z2l o h Z2a,fun b u n e=>by rw [Z0h (fun z=>n (by rw [z]; exact m))]; exact e⟩
theorem Ch.less {ls ms:List Addr} {H H1 H2:Hp} (a:Ch ls H H1) (b:Ch ms H1 H2) (s:∀ x∈ms,x∈ls∨H x=none):Ch ls H H2:=⟨a.t.trans b.t,fun c o n e=>b.k c o (fun z=>(s c z).elim n (fun w=>by rw [w] at e; cases e)) (a.k c o n e)⟩
theorem Ch.same {H H':Hp} (h:Ch [] H H'):Same H H':=fun b o e=>h.k b o List.not_mem_nil e
noncomputable def kd:Kd→V
 | .n=>.str "n"
 | .t=>.str "t"
 | _=>.str "h"
noncomputable def okd:Option Kd→V
 | none=>.non
 | some k=>kd k
structure WA where
 wd:Addr
 fl:Addr
 hd:Addr
 ow:Addr
 si:Addr
noncomputable def HdV (si:Addr) (H:Hp) (v:V) (h:List Kd×Kd):Prop:=∃ t p,v=.ref t∧H t=some (.tup [.ref p,kd h.2])∧H p=some (.lst (h.1.map kd))∧p≠si
structure WO (K:W.Frag) (H:Hp) (A:WA) (W:Wo) (n:Nat):Prop where
 d:∃ kvs,H A.wd=some (.dK kvs)∧valV kvs (.inr "fields")=some (.ref A.fl)∧valV kvs (.inr "heads")=some (.ref A.hd)∧valV kvs (.inr "owners")=some (.ref A.ow)∧valV kvs (.inr "sites")=some (.ref A.si)
 fl:H A.fl=some (.lst (W.fields.map fun (m:Nat)=>V.int m))
 hd:∃ hv,H A.hd=some (.lst hv)∧Paired (HdV A.si H) hv W.heads
 ow:H A.ow=some (.lst (W.owners.map fun (m:Nat)=>V.int m))
 si:H A.si=some (.lst [.int n])
 ne:A.fl≠A.si∧A.hd≠A.si∧A.ow≠A.si
structure WF (W:Wo):Prop where
 f0:∃ m,W.fields[0]?=some m∧m≤3
 fl:∀ m∈W.fields,2≤m∧m≤4
 fn:W.fields.length≤4
 ow:∀ b∈W.owners,b < W.heads.length
 on:W.owners.length≤9∧0 < W.owners.length
 hn:W.heads.length≤3∧0 < W.heads.length
 hk:∀ h∈W.heads,h.1.length≤2∧(∀ k∈h.1,k≠.hx)∧h.2≠.hx
theorem HdV.same {si:Addr} {H H':Hp} {v:V} {h:List Kd×Kd} (x:HdV si H v h) (s:Same H H'):HdV si H' v h:=let ⟨t,p,a,b,c,d⟩:=x; ⟨t,p,a,s _ _ b,s _ _ c,d⟩
theorem WO.same {K:W.Frag} {H H':Hp} {A:WA} {W:Wo} {n:Nat} (h:WO K H A W n) (s:Same H H'):WO K H' A W n:=by
 obtain ⟨kvs,d1,d2,d3,d4,d5⟩:=h.d
 obtain ⟨hv,h1,h2⟩:=h.hd
 exact ⟨⟨kvs,s _ _ d1,d2,d3,d4,d5⟩,s _ _ h.fl,⟨hv,s _ _ h1,Paired.imp' (fun _ _ x=>x.same s) h2⟩,s _ _ h.ow,s _ _ h.si,h.ne⟩
theorem WO.get {K:W.Frag} {H:Hp} {A:WA} {W:Wo} {n:Nat} (h:WO K H A W n):DGet H A.wd (.str "fields") (some (.ref A.fl))∧DGet H A.wd (.str "heads") (some (.ref A.hd))∧DGet H A.wd (.str "owners") (some (.ref A.ow))∧DGet H A.wd (.str "sites") (some (.ref A.si)):=by
 obtain ⟨kvs,d1,d2,d3,d4,d5⟩:=h.d
 refine ⟨?_,?_,?_,?_⟩
 ·rw [← d2]; exact DGet.k (k:=.inr "fields") d1
 ·rw [← d3]; exact DGet.k (k:=.inr "heads") d1
 ·rw [← d4]; exact DGet.k (k:=.inr "owners") d1
 ·rw [← d5]; exact DGet.k (k:=.inr "sites") d1
noncomputable def hkd (m:Nat):Kd:=if m=4 then .hx else .h
theorem Z0V {H H':Hp} {a:Addr} (s:Same H H') (h:H' a=none):H a=none:=by
 cases e:H a with
 | none=>rfl
 | some o=>rw [s _ _ e] at h; cases h
theorem Z1O {K:W.Frag} {H H':Hp} {us:List V} {rows:List Row} (h:Paired (RowV K H) us rows) (s:SameT H H'):Paired (RowV K H') us rows:=Paired.imp' (fun _ _ ⟨r,e,x⟩=>⟨r,e,x.t s⟩) h
noncomputable def bM (k:Nat):Nat:=if k≤3 then k else 8
noncomputable def Z8G (K:W.Frag) (H H':Hp) (l:Addr) (rows:List Row):Prop:=Same H H'∧H l=none∧∃ us,H' l=some (.lst us)∧Paired (RowV K H') us rows
inductive Z9N (K:W.Frag) (m0:Nat) (vs:List V) (H:Hp) (Q:VK):Prop
 | mk (A:WA) (W:Wo) (n ho m:Nat) (c:Int) (a1:vs=[.ref A.wd,.int ho,.int c]) (a2:WO K H A W n) (a3:WF W) (a4:W.fields[ho]?=some m) (a5:m≤m0) (a6:∀ l rows H',Z8G K H H' l rows→(∀ ss sl st,Seg W ss rows sl st sl (hkd m::st))→rows.length≤bM m+1→Q (.ref l) H'):Z9N K m0 vs H Q
def Z4h (K:W.Frag) (m0:Nat):Sp:=fun vs H Q _=>Z9N K m0 vs H Q
theorem Z3h {xs:List Nat} {i m:Nat} (h:xs[i]?=some m):atI (xs.map fun (m:Nat)=>V.int m) (i:Int)=some (.int m):=Z0P (by rw [List.getElem?_map,h]; rfl)
section
variable {C_Places C_Machine D_ROW_SIGNS:Addr} {P:Program} {w:World} {K:W.Frag} {mg:Str→Option Value} {base:Heap}
noncomputable def MDI (K:W.Frag) (W:Wo) (H0:Hp) (l:Addr) (σ0:St) (k:Nat) (σ:St) (H:Hp):Prop:=∃ us rows o,Ch [l] H0 H∧H l=some (.lst us)∧Paired (RowV K H) us rows∧(∀ ss sl st,Seg W ss rows sl st sl (((List.range k).map fk).reverse++st))∧rows.length≤bM k∧σ=σ0++[o]
theorem Z8e (T:Txt P w K mg C_Places C_Machine D_ROW_SIGNS) {lv m0 m1:Nat} (hlv:1≤lv) (hm:m1≤3∨3≤m0) (h__law_mixed:Has P w K mg base 1 "_law_mixed" ["_law_cell","_law_k"] Z2Y) (h__law_number:Has P w K mg base 1 "_law_number" ["_law_cell"] Z3v) (h__law_made:Has P w K mg base lv "_law_made" ["_law_world_here","_law_house","_law_cell"] (Z4h K m0)):Has P w K mg base (lv+1) "_law_made" ["_law_world_here","_law_house","_law_cell"] (Z4h K m1):=by
 refine Has.of T.f__law_made sc__law_made (fun _ _ _ _ _ _ us hl=>el3 us hl fun _ _ _=>rfl) (fun vs H Q E h=>?_) (fun f cdv A outer s H vs Q E hr h=>?_)
 ·obtain ⟨A,W,n,ho,m,c,rfl,_⟩:=h
  rfl
 obtain ⟨A',W,n,ho,m,c,rfl,hw,wf,hm1,hm2,q⟩:=h
 refine ⟨_,(Z0d (Z0I (i:=3) sc__law_made.nd rfl (Or.inl rfl) (Z0D Z0b))
  (Z0d (Z3g PassesOwn.never rfl (Z0Q rfl T.z_range (Z0a (Z0u (r:=Z0U K) Z0w (Z0n (Z0F hr) (pvF 0) Z0g (fun _ _=>rfl)) (pvF 1) (fun _ _=>rfl)) Z0b)) (Z0v (i:=4) sc__law_made.nd rfl (Or.inl rfl)) (Z0f (Z0L (Z0m Z0R (pvF 4) Z0c (Z0o _)) (Z0f (Z0p (Z1h PySem.F.plainAttrs_list PySem.F.slot_list_extend PySem.F.type_list_extend Z2A (pvF 3) (Z0a (Z0x h__law_made hr (by first | decide | omega) rfl (Z0a (pvF 0) (Z0a Z0c (Z0a (Z0x h__law_mixed hr (by first | decide | omega) rfl (Z0a (pvF 2) (Z0a Z0c Z0b))) Z0b)))) Z0b)))) (Z0f (Z0p (Z1h PySem.F.plainAttrs_list PySem.F.slot_list_append PySem.F.type_list_append Z0z (pvF 3) (Z0a (Z2S (Z0m Z0R (pvF 4) Z0c (Z0o _)) (Z0A (Z0a Z0g (Z0a (Z2x Z0R (Z0k Z0G (Z0k Z0E (pvF 2) Z0c) Z0c) Z0c (Z0o _)) Z0b))) (Z0A (Z0a Z0g (Z0a (Z0x h__law_number hr (by first | decide | omega) rfl (Z0a (Z0k Z0N (Z0k Z0E (pvF 2) Z0c) (Z0k Z2B Z0c (pvF 4))) Z0b)) Z0b)))) Z0b)))))))
  (Z0f (Z0y (Z0k Z2D (pvF 3) (Z0D (Z0a (Z0A (Z0a Z0g (Z0a (pvF 1) (Z0a (Z0u (r:=Z0U K) Z0w (Z0n (Z0F hr) (pvF 0) Z0g (fun _ _=>rfl)) (pvF 1) (fun _ _=>rfl)) Z0b)))) Z0b))))))),?_⟩
 refine seq3 fun uz2 huz2 uz1 huz1=>?_
 walk_at "rd"
 refine New.of fun l H1 h1 s1 e1=>?_
 have hw1:=hw.same s1
 obtain ⟨m',f0,f3⟩:=wf.f0
 obtain ⟨m2,m4⟩:=wf.fl m (List.mem_of_getElem? hm1)
 subst huz1
 walk_at "rd"
 refine ⟨_,hw1.get.1,A'.fl,rfl,_,SqL.of hw1.fl,_,Z3h hm1,m,rfl,by omega,by omega,?_⟩
 rw [Int.toNat_natCast]
 refine Z1n (MDI K W H1 l [some (.ref A'.wd),some (.int ho),some (.int c),some (.ref l)]) ⟨[],[],none,.refl,e1,.nil,(fun ss sl st=>Seg.nil),Nat.zero_le _,rfl⟩ (fun k σ H2 hk hI=>?_) (fun σ H2 hI=>?_)
 ·obtain ⟨us,rows,o,c2,e2,pr,sg,le,rfl⟩:=hI
  rw [Int.zero_add]
  have step:∀ {H3:Hp} {us':List V} {rows':List Row},Ch [l] H1 H3→Paired (RowV K H3) (us++us') (rows++rows')→(∀ ss sl st,Seg W ss rows' sl st sl (fk k::st))→rows.length+rows'.length≤bM (k+1)→H3 l=some (.lst (us++us'))→MDI K W H1 l [some (.ref A'.wd),some (.int ho),some (.int c),some (.ref l)] (k+1) [some (.ref A'.wd),some (.int ho),some (.int c),some (.ref l),some (.int k)] H3:=fun {H3 us' rows'} c3 p3 s3 l3 e3=>by
   refine ⟨_,_,_,c3,e3,p3,fun ss sl st=>?_,by rw [List.length_append]; exact l3,rfl⟩
   rw [List.range_succ,List.map_append,List.reverse_append]
   exact (sg ss sl st).app (s3 ss sl _)
  have S2:Same H H2:=Ch.same ((Ch.of s1).less c2 fun x hx=>.inr (by cases List.mem_singleton.mp hx; exact h1))
  have bl:rows.length≤8:=by unfold bM at le; split at le <;> omega
  have lus:us.length≤8:=by rw [pr.length]; exact bl
  walk_at "rd"
  refine ite2 (fun z=>?_) (fun z=>⟨.inl ⟨rfl,_,SqL.of e2⟩,ite2 (fun z1=>?_) (fun z1=>?_)⟩)
  ·have hk3:k=3:=by omega
   refine ⟨.inl ⟨rfl,_,SqL.of e2⟩,c,3,rfl,fun r hr=>⟨A',W,n,0,m',r,rfl,hw.same S2,wf,f0,by omega,fun l3 rows3 H3 nr sg3 le3=>?_⟩⟩
   obtain ⟨s3,h3,us3,e3,p3⟩:=nr
   have bl3:rows3.length≤4:=by unfold bM at le3; split at le3 <;> omega
   have e23:=s3 _ _ e2
   refine ⟨l3,rfl,_,e23,_,e3,by rw [p3.length]; omega,step (rows':=rows3) ((c2.trans (.of s3)).trans (.put _ e23 List.mem_cons_self)) ?_ ?_ ?_ Z0e⟩
   ·exact Z1O (Paired.appendP (Z1O pr (Same.t s3)) p3) (Z2l _ e23 Z2a)
   ·intro ss sl st
    have:=sg3 ss sl st
    rw [hk3]
    unfold hkd at this
    rw [if_neg (by omega)] at this
    exact this
   ·rw [hk3] at le ⊢
    unfold bM at le ⊢
    rw [if_pos (by omega)] at le
    rw [if_neg (by omega)]
    omega
  ·have hk1:k=1:=by omega
   refine New.of fun t H3 h3 s3 e3=>⟨_,s3 _ _ e2,by omega,step (us':=[.ref t]) (rows':=[.push (.bl (decide (c / 11 % 2=1)))]) ((c2.trans (.of s3)).trans (.put _ (s3 _ _ e2) List.mem_cons_self)) ?_ ?_ ?_ Z0e⟩
   ·exact Z1O (Paired.appendP (Z1O pr (Same.t s3)) (.cons ⟨t,rfl,_,SqT.of e3,rfl⟩ .nil)) (Z2l _ (s3 _ _ e2) Z2a)
   ·intro ss sl st x told r h
    rw [hk1] at h
    exact .push .bl h
   ·rw [hk1] at le ⊢
    exact Nat.add_le_add_right le 1
  ·refine ⟨_,rfl,fun v hv=>New.of fun t H3 h3 s3 e3=>⟨_,s3 _ _ e2,by omega,step (us':=[.ref t]) (rows':=[.push (.int v)]) ((c2.trans (.of s3)).trans (.put _ (s3 _ _ e2) List.mem_cons_self)) ?_ ?_ ?_ Z0e⟩⟩
   ·exact Z1O (Paired.appendP (Z1O pr (Same.t s3)) (.cons ⟨t,rfl,_,SqT.of e3,rfl,hv⟩ .nil)) (Z2l _ (s3 _ _ e2) Z2a)
   ·intro ss sl st x told r h
    have:k=0∨k=2:=by omega
    rcases this with e | e
    ·rw [e] at h; exact .push (.int hv) h
    ·rw [e] at h; exact .push (.int hv) h
   ·have:k=0∨k=2:=by omega
    unfold bM at le ⊢
    rw [if_pos (by omega)] at le ⊢
    show _+1≤_
    omega
 ·obtain ⟨us,rows,o,c2,e2,pr,sg,le,rfl⟩:=hI
  have S2:Same H H2:=Ch.same ((Ch.of s1).less c2 fun x hx=>.inr (by cases List.mem_singleton.mp hx; exact h1))
  have hw2:=hw.same S2
  have bl:rows.length≤8:=by unfold bM at le; split at le <;> omega
  have lus:us.length≤8:=by rw [pr.length]; exact bl
  subst huz2
  walk_at "rd"
  refine ⟨_,hw2.get.1,A'.fl,rfl,_,SqL.of hw2.fl,_,Z3h hm1,New.of fun t H3 h3 s3 e3=>New.of fun l4 H4 h4 s4 e4=>⟨_,(s3.trans s4) _ _ e2,_,e4,by show _+1≤_; omega,New.of fun l5 H5 h5 s5 e5=>?_⟩⟩
  have S5:=s3.trans (s4.trans s5)
  refine q l5 (rows++[.make ho m]) H5 ⟨S2.trans S5,Z0V (S2.trans (s3.trans s4)) h5,_,e5,?_⟩ (fun ss sl st=>?_) (by rw [List.length_append]; show _+1≤_; omega)
  ·exact Paired.appendP (Z1O pr (Same.t S5)) (.cons ⟨t,rfl,SqT.of ((s4.trans s5) _ _ e3)⟩ .nil)
  ·exact (sg ss sl st).app fun x told r h=>.make hm1 h
theorem J1f (T:Txt P w K mg C_Places C_Machine D_ROW_SIGNS):Has P w K mg base 1 "_law_made" ["_law_world_here","_law_house","_law_cell"] (Z4h K 0):=by
 refine Has.of T.f__law_made sc__law_made (fun _ _ _ _ _ _ us hl=>el3 us hl fun _ _ _=>rfl) (fun vs H Q E h=>?_) (fun f cdv A outer s H vs Q E hr h=>?_)
 ·obtain ⟨A,W,n,ho,m,c,rfl,_⟩:=h
  rfl
 obtain ⟨A,W,n,ho,m,c,rfl,_,wf,e,z,_⟩:=h
 have:=(wf.fl m (List.mem_of_getElem? e)).1
 omega
end
end K65
end
section
set_option format.width 300
namespace K65
open PySem L2 MM
open Mach (AV AFr Row Sg Blk MS PL Mem getP updM seen Z0K Bd)
seal L2.PE L2.PA L2.PT L2.PS L2.PSs L2.PG L2.PGs L2.PI L2.PW
open MT (Kd fk Wo VT Seg Sf)
structure SA where
 st:Addr
 ra:Addr
 sa:Addr
 la:Addr
structure SO (K:W.Frag) (H:Hp) (A:SA) (rows:List Row) (stk:List Kd) (sl:List (Option Kd)):Prop where
 d:H A.st=some (.dK [(.inr "rows",.ref A.ra),(.inr "stack",.ref A.sa),(.inr "slots",.ref A.la)])
 r:∃ us,H A.ra=some (.lst us)∧Paired (RowV K H) us rows
 s:H A.sa=some (.lst (stk.map kd))
 l:H A.la=some (.lst (sl.map okd))
 nd:A.ra≠A.sa∧A.ra≠A.la∧A.sa≠A.la
 hs:(∀ k∈stk,k≠.hx)∧∀ k,some k∈sl→k≠.hx
theorem SO.same {K:W.Frag} {H H':Hp} {A:SA} {rows:List Row} {stk:List Kd} {sl:List (Option Kd)} (h:SO K H A rows stk sl) (s:Same H H'):SO K H' A rows stk sl:=by
 obtain ⟨us,r1,r2⟩:=h.r
 exact ⟨s _ _ h.d,⟨us,s _ _ r1,Z1O r2 (Same.t s)⟩,s _ _ h.s,s _ _ h.l,h.nd,h.hs⟩
theorem SO.get {K:W.Frag} {H:Hp} {A:SA} {rows:List Row} {stk:List Kd} {sl:List (Option Kd)} (h:SO K H A rows stk sl):DGet H A.st (.str "rows") (some (.ref A.ra))∧DGet H A.st (.str "stack") (some (.ref A.sa))∧DGet H A.st (.str "slots") (some (.ref A.la)):=⟨DGet.k (k:=.inr "rows") h.d,DGet.k (k:=.inr "stack") h.d,DGet.k (k:=.inr "slots") h.d⟩
def K3 (k:Kd):Prop:=k≠.hx
inductive Z9t (K:W.Frag) (vs:List V) (H:Hp) (Q:VK):Prop
 | mk (A:WA) (B:SA) (W:Wo) (n c:Nat) (rows:List Row) (stk:List Kd) (sl:List (Option Kd)) (k:Kd) (a1:vs=[.ref A.wd,.ref B.st,kd k,.int c]) (a2:WO K H A W n) (a3:WF W) (a4:SO K H B rows stk sl) (a5:k≠.hx) (a6:sl.length≤10) (a7:∀ l rows' H',Z8G K H H' l rows'→(∀ ss st,Seg W ss rows' sl st sl (k::st))→rows'.length≤9→Q (.ref l) H'):Z9t K vs H Q
def Z5k (K:W.Frag):Sp:=fun vs H Q _=>Z9t K vs H Q
noncomputable def okD:Option Kd→PyData
 | none=>.none
 | some .n=>.str "n"
 | some .t=>.str "t"
 | some _=>.str "h"
theorem J1B {K:W.Frag} {H:Hp} (o:Option Kd):RdD K H (okd o) (okD o):=by
 cases o with
 | none=>exact .non
 | some k=>cases k <;> exact .str _
theorem J4d {K:W.Frag} {H:Hp} (k:Kd):RdD K H (kd k) (okD (some k)):=J1B (some k)
theorem J1u (o:Option Kd):SeqAt.shaped (okD o)=true:=by
 cases o with
 | none=>rfl
 | some k=>cases k <;> decide +kernel
theorem J1s {o:Option Kd} {k:Kd} (h1:o≠some .hx) (h2:k≠.hx):(okD o).eqv (okD (some k))=decide (o=some k):=by
 cases o with
 | none=>cases k <;> rfl
 | some l=>cases l <;> cases k <;> first | rfl | exact absurd rfl h1 | exact absurd rfl h2
theorem J1L {k:Kd} (h:k≠.hx):(kd k=.str "n"↔k=.n)∧(kd k=.str "t"↔k=.t)∧(kd k=.str "h"↔k=.h):=by
 cases k <;> first | exact absurd rfl h | (refine ⟨⟨fun z=>?_,fun z=>?_⟩,⟨fun z=>?_,fun z=>?_⟩,⟨fun z=>?_,fun z=>?_⟩⟩ <;> first | rfl | (cases z) | (revert z; decide))
section
variable {C_Places C_Machine D_ROW_SIGNS:Addr} {P:Program} {w:World} {K:W.Frag} {mg:Str→Option Value} {base:Heap}
theorem J3f (T:Txt P w K mg C_Places C_Machine D_ROW_SIGNS) (h__law_number:Has P w K mg base 1 "_law_number" ["_law_cell"] Z3v) (h__law_made:Has P w K mg base 3 "_law_made" ["_law_world_here","_law_house","_law_cell"] (Z4h K 4)):Has P w K mg base 4 "_law_push" ["_law_world_here","_law_state","_law_kind","_law_cell"] (Z5k K):=by
  refine Has.of T.f__law_push sc__law_push (fun _ _ _ _ _ _ us hl=>el4 us hl fun _ _ _ _=>rfl) (fun vs H Q E h=>?_) (fun f cdv A outer s H vs Q E hr h=>?_)
  · obtain ⟨A,B,W,n,c,rows,stk,sl,k,rfl,_⟩:=h
    rfl
  obtain ⟨A',B,W,n,c,rows,stk,sl,k,rfl,hw,wf,ho,hk,lsl,q⟩:=h
  refine ⟨_,(Z0d (Z2k rfl sc__law_push.nd (i:=4) rfl rfl (BlockOk.of (N:=["_law_k","_law_kind","_law_state"]) (nl:=[none,some 2,some 1]) (cl:=[("_law_state",s.heap.objs.size+1),("_law_kind",s.heap.objs.size+2)]) rfl (by decide +kernel) (by decide +kernel) rfl (sub2 rfl rfl) (nm:=["_law_state","_law_kind"]) rfl (by decide +kernel) rfl (fun i hi j hj=>by
            match i,hi with
            | 0,_=>cases hj
             | 1,_=>cases hj; exact ⟨_,rfl,rfl,rfl,.inl rfl⟩
             | 2,_=>cases hj; exact ⟨_,rfl,rfl,rfl,.inl rfl⟩
            )) (Z0Q rfl T.z_range (Z0a (Z0q Z0l rfl T.z_len Z0O (Z0a (Z0n (Z0F hr) (pvF 1) Z0g (fun _ _=>rfl)) Z0b)) Z0b))
          (fun C fp s H=>(Z0v (i:=0) (show (["_law_k","_law_kind","_law_state"]:List Str).Nodup by decide +kernel) rfl (Or.inl rfl)))
          (fun C fp s H=>(Z0m (r:=rEqD K) (Z4I hr.units) (Z0u (r:=Z0U K) Z0w (Z0n (Z0F hr) (pvF 2) Z0g (fun _ _=>rfl)) (pvF 0) (fun _ _=>rfl)) (pvF 1) (Z0o _))) (fun C fp s H=>(pvF 0)))
    (Z0d (Z0L (PW.pt (Z3M (Z0m (r:=rNeN K) (Z6X hr.units) (pvF 4) (Z0D Z0b) (Z0o _)) (Z2Q (PW.pt (J3K (Z0m Z0R (Z0k Z0G (pvF 3) Z0c) Z0c (Z0o _)) (J1S (PW.pt (Z3M (Z0m Z0R (pvF 2) Z0g (Z0o _)) (Z2Q (Z0m Z8w (Z0k Z0G (pvF 3) Z0c) Z0c (Z0o _))))))))))) (Z0f (Z0y (Z0D (Z0a (Z0A (Z0a Z0g (Z0a (Z0u (r:=Z0U K) Z0w (pvF 4) (Z0k Z0G (Z0k Z0E (pvF 3) Z0c) (Z0q Z0l rfl T.z_len Z0O (Z0a (pvF 4) Z0b))) (fun _ _=>rfl)) Z0b))) Z0b)))) Z0C)
    (Z0d (Z0L (Z0m Z0R (pvF 2) Z0g (Z0o _)) (Z0f (Z0y (Z0D (Z0a (Z0A (Z0a Z0g (Z0a (Z0x h__law_number hr (by first | decide | omega) rfl (Z0a (Z0k Z0E (pvF 3) Z0c) Z0b)) Z0b))) Z0b)))) Z0C)
    (Z0d (Z0L (Z0m Z0R (pvF 2) Z0g (Z0o _)) (Z0f (Z0y (Z0D (Z0a (Z0A (Z0a Z0g (Z0a (Z2x Z0R (Z0k Z0G (Z0k Z0E (pvF 3) Z0c) Z0c) Z0c (Z0o _)) Z0b))) Z0b)))) Z0C)
    (Z0f (Z0y (Z0x h__law_made hr (by first | decide | omega) rfl (Z0a (pvF 0) (Z0a (Z0k Z0G (Z0k Z0E (pvF 3) Z0c) (Z0q Z0l rfl T.z_len Z0O (Z0a (Z0n (Z0F hr) (pvF 0) Z0g (fun _ _=>rfl)) Z0b))) (Z0a (pvF 3) Z0b)))))))))),?_⟩
  refine seq5 fun uz4 huz4 uz3 huz3 uz2 huz2 uz1 huz1=>?_
  walk_at "rd"
  refine ⟨_,ho.get.2.2,B.la,rfl,_,.inl (SqL.of ho.l),by omega,by rw [List.length_map]; omega,fun D hD=>?_⟩
  rw [Int.toNat_natCast,List.length_map]
  refine Z2V none [some (kd k),some (.ref B.st)] (fun i=>decide (sl[i]?=some (some k))) rfl hD (by rw [sizeLine_eq]; omega) (fun i hi H1 K' s1 kk=>?_) (fun H1 s1 e1=>?_)
  · have ho1:=ho.same s1
    have hi':i < sl.length:=hi
    walk_at "rd"
    have e:atI (sl.map okd) (i:Int)=some (okd sl[i]):=Z0P (by rw [List.getElem?_map,List.getElem?_eq_getElem hi']; rfl)
    refine ⟨_,ho1.get.2.2,B.la,rfl,_,SqL.of ho1.l,_,e,_,J1B _,_,J4d _,J1u _,J1u _,?_⟩
    rw [J1s (fun z=>ho.hs.2 .hx (by rw [← z]; exact List.getElem_mem _) rfl) hk]
    have:=kk _ (Same.refl _)
    rw [List.getElem?_eq_getElem hi'] at this
    have e2:decide (some sl[i]=some (some k))=decide (sl[i]=some k):=decide_eq_decide.mpr ⟨fun z=>Option.some.inj z,fun z=>congrArg some z⟩
    rw [e2] at this
    exact this
  generalize hks:(List.range sl.length).filter (fun i=>decide (sl[i]?=some (some k)))=ks at e1
  have ink:∀ i∈ks,sl[i]?=some (some k):=fun i hi=>by rw [← hks] at hi; exact of_decide_eq_true (List.mem_filter.mp hi).2
  have lks:ks.length≤10:=by rw [← hks]; exact Nat.le_trans (List.length_filter_le _ _) (by rw [List.length_range]; exact lsl)
  subst huz1
  walk_at "rd"
  refine New.of fun l2 H2 h2 s2 e2=>?_
  have hD2:=s2 _ _ e1
  have S2:=s1.trans s2
  have load:ks≠[]→∃ x,(SqL K H2 D x∨SqT K H2 D x)∧0 < (x.length:Int)∧IxL K D ((c:Int) / 15 % x.length) H2 fun x H1=>New H1 (HO.tup [V.str (Str.ofString "load"),x]) fun p H2=>New H2 (HO.lst [V.ref p]) fun p H2=>Q (V.ref p) H2:=fun ne=>by
    have l0:0 < ks.length:=List.length_pos_iff.mpr ne
    refine ⟨_,.inl (SqL.of hD2),by rw [List.length_map]; omega,?_⟩
    rw [List.length_map]
    have hj:(c:Int) / 15 % (ks.length:Int)=((c / 15 % ks.length:Nat):Int):=by rw [Int.natCast_emod,Int.natCast_ediv]; rfl
    have jl:c / 15 % ks.length < ks.length:=Nat.mod_lt _ l0
    rw [hj]
    refine ⟨_,SqL.of hD2,_,Z3h (List.getElem?_eq_getElem jl),New.of fun t H3 h3 s3 e3=>New.of fun l4 H4 h4 s4 e4=>?_⟩
    refine q l4 [.load ks[c / 15 % ks.length]] H4 ⟨S2.trans (s3.trans s4),Z0V (S2.trans s3) h4,_,e4,.cons ⟨t,rfl,SqT.of (s4 _ _ e3)⟩ .nil⟩ (fun ss st x told r h=>?_) (by show 1≤9; omega)
    exact .load (ink _ (List.getElem_mem _)) h
  have rest:uz2 { nx:=fun x H'=>Q V.non H',rt:=Q } [some (V.ref A'.wd),some (V.ref B.st),some (kd k),some (V.int c),some (V.ref D)] H2:=by
    subst huz2
    walk_at "rd"
    have S3:∀ {v:AV} {v':V},AtV K H2 v' v→VT W [] v k→New H2 (HO.tup [V.str (Str.ofString "push"),v']) fun p H2=>New H2 (HO.lst [V.ref p]) fun p H2=>Q (V.ref p) H2:=fun {v v'} hv hk=>New.of fun t H3 h3 s3 e3=>New.of fun l4 H4 h4 s4 e4=>q l4 [.push v] H4 ⟨S2.trans (s3.trans s4),Z0V (S2.trans s3) h4,_,e4,.cons ⟨t,rfl,_,SqT.of (s4 _ _ e3),hv.t (Same.t (s3.trans s4))⟩ .nil⟩ (fun ss st x told r h=>.push hk h) (by show 1≤9; omega)
    refine ⟨by cases k <;> rfl,ite2 (fun z=>?_) (fun z=>?_)⟩
    · have e:=(J1L hk).1.mp z
      subst e
      exact ⟨_,rfl,fun v hv=>S3 (v:=.int v) ⟨rfl,hv⟩ (.int hv)⟩
    subst huz3
    walk_at "rd"
    refine ⟨by cases k <;> rfl,ite2 (fun z=>?_) (fun z2=>?_)⟩
    · have e:=(J1L hk).2.1.mp z
      subst e
      exact S3 (v:=.bl _) rfl .bl
    have kh:k=.h:=by
      cases k with
      | n=>exact absurd rfl z
      | t=>exact absurd rfl z2
      | h=>rfl
      | hx=>exact absurd rfl hk
    subst kh
    subst huz4
    walk_at "rd"
    have hw2:=hw.same S2
    obtain ⟨m',f0,f3⟩:=wf.f0
    have l0:0 < W.fields.length:=(List.getElem?_eq_some_iff.mp f0).1
    have fn:=wf.fn
    refine ⟨_,hw2.get.1,A'.fl,rfl,_,.inl (SqL.of hw2.fl),by rw [List.length_map]; omega,?_⟩
    rw [List.length_map]
    have hj:(c:Int) / 15 % (W.fields.length:Int)=((c / 15 % W.fields.length:Nat):Int):=by rw [Int.natCast_emod,Int.natCast_ediv]; rfl
    have jl:c / 15 % W.fields.length < W.fields.length:=Nat.mod_lt _ l0
    rw [hj]
    have em:=List.getElem?_eq_getElem jl
    have m4:=(wf.fl _ (List.getElem_mem jl)).2
    refine ⟨A',W,n,_,_,_,rfl,hw2,wf,em,m4,fun l rows' H3 nr sg le=>?_⟩
    obtain ⟨s3,h3,r3⟩:=nr
    refine q l rows' H3 ⟨S2.trans s3,Z0V S2 h3,r3⟩ (fun ss st x told r h=>sg ss sl st x told r ?_) (Nat.le_trans le (by unfold bM; split <;> omega))
    unfold hkd
    split
    · exact .wk h
    · exact h
  refine ⟨_,SqL.of hD2,SqL.of e2,ite2 (fun z=>?_) (fun z=>rest)⟩
  have ne:ks≠[]:=fun e=>by rw [e] at z; cases z
  refine ite2 (fun _=>load ne) (fun _=>⟨by cases k <;> rfl,ite2 (fun _=>ite2 (fun _=>load ne) (fun _=>rest)) (fun _=>rest)⟩)
end
end K65
end
section
set_option format.width 300
namespace K65
open PySem L2 MM
open Mach (AV AFr Row Sg Blk MS PL Mem getP updM seen Z0K Bd)
seal L2.PE L2.PA L2.PT L2.PS L2.PSs L2.PG L2.PGs L2.PI L2.PW
open MT (Kd fk Wo VT Seg Sf)
def Ex (W:Wo) (ss:List Nat) (n:Nat) (rows:List Row) (sl:List (Option Kd)) (st:List Kd) (rows':List Row) (sl':List (Option Kd)) (st':List Kd):Prop:=∃ more,rows'=rows++more∧more.length≤n∧Seg W ss more sl st sl' st'
theorem Ex.refl {W:Wo} {ss:List Nat} {rows:List Row} {sl:List (Option Kd)} {st:List Kd}:Ex W ss 0 rows sl st rows sl st:=⟨[],(List.append_nil _).symm,Nat.le_refl _,Seg.nil⟩
theorem Ex.trans {W:Wo} {ss:List Nat} {n m:Nat} {r1 r2 r3:List Row} {l1 l2 l3:List (Option Kd)} {s1 s2 s3:List Kd} (a:Ex W ss n r1 l1 s1 r2 l2 s2) (b:Ex W ss m r2 l2 s2 r3 l3 s3):Ex W ss (n+m) r1 l1 s1 r3 l3 s3:=by
 obtain ⟨x,e1,h1,g1⟩:=a
 obtain ⟨y,e2,h2,g2⟩:=b
 exact ⟨x++y,by rw [e2,e1,List.append_assoc],by rw [List.length_append]; omega,g1.app g2⟩
theorem Ex.le {W:Wo} {ss:List Nat} {n m:Nat} {r1 r2:List Row} {l1 l2:List (Option Kd)} {s1 s2:List Kd} (a:Ex W ss n r1 l1 s1 r2 l2 s2) (h:n≤m):Ex W ss m r1 l1 s1 r2 l2 s2:=let ⟨x,e,l,g⟩:=a; ⟨x,e,Nat.le_trans l h,g⟩
theorem Ex.mono {W:Wo} {ss:List Nat} {n:Nat} {r1 r2:List Row} {l1 l2:List (Option Kd)} {s1 s2:List Kd} (a:Ex W ss n r1 l1 s1 r2 l2 s2) (x:List Nat):Ex W (ss++x) n r1 l1 s1 r2 l2 s2:=let ⟨y,e,l,g⟩:=a; ⟨y,e,l,g.mono x⟩
theorem Ex.len {W:Wo} {ss:List Nat} {n:Nat} {r1 r2:List Row} {l1 l2:List (Option Kd)} {s1 s2:List Kd} (a:Ex W ss n r1 l1 s1 r2 l2 s2):r2.length≤r1.length+n:=by
 obtain ⟨y,e,l,g⟩:=a
 rw [e,List.length_append]; omega
theorem Ex.one {W:Wo} {ss:List Nat} {r:Row} {rows:List Row} {l1 l2:List (Option Kd)} {s1 s2:List Kd} (h:Seg W ss [r] l1 s1 l2 s2):Ex W ss 1 rows l1 s1 (rows++[r]) l2 s2:=⟨[r],rfl,Nat.le_refl _,h⟩
structure Bo (K:W.Frag) (H0 H:Hp) (A:WA) (B:SA) (W:Wo) (ss:List Nat) (rows:List Row) (stk:List Kd) (sl:List (Option Kd)):Prop where
 w:∃ n,WO K H0 A W n
 k:∀ b o,b≠A.si→H0 b=some o→H b=some o
 t:SameT H0 H
 f:WF W
 si:H A.si=some (.lst [.int ss.length])
 s:SO K H B rows stk sl
 fr:H0 B.st=none∧H0 B.ra=none∧H0 B.sa=none∧H0 B.la=none
 ll:sl.length≤10∧rows.length≤10000∧stk.length≤10000
section
variable {K:W.Frag} {H0 H H':Hp} {A:WA} {B:SA} {W:Wo} {ss:List Nat} {rows:List Row} {stk:List Kd} {sl:List (Option Kd)}
theorem Bo.wo (h:Bo K H0 H A B W ss rows stk sl):WO K H A W ss.length:=by
 obtain ⟨n,w⟩:=h.w
 obtain ⟨kvs,d1,d2⟩:=w.d
 obtain ⟨hv,h1,h2⟩:=w.hd
 have nw:A.wd≠A.si:=fun z=>by rw [z,w.si] at d1; cases d1
 have nt:∀ {t:Addr} {xs:List V},H0 t=some (.tup xs)→t≠A.si:=fun {t xs} e z=>by rw [z,w.si] at e; cases e
 exact ⟨⟨kvs,h.k _ _ nw d1,d2⟩,h.k _ _ w.ne.1 w.fl,⟨hv,h.k _ _ w.ne.2.1 h1,Paired.imp' (fun _ _ ⟨t,p,a,b,c,d⟩=>⟨t,p,a,h.k _ _ (nt b) b,h.k _ _ d c,d⟩) h2⟩,h.k _ _ w.ne.2.2 w.ow,h.si,w.ne⟩
theorem Bo.si0 (h:Bo K H0 H A B W ss rows stk sl):∃ x,H0 A.si=some x:=let ⟨_,w⟩:=h.w; ⟨_,w.si⟩
theorem Bo.free (h:Bo K H0 H A B W ss rows stk sl) {a:Addr} (e:H a=none):H0 a=none:=by
 cases z:H0 a with
 | none=>rfl
 | some o=>
  by_cases c:a=A.si
  ·rw [c,h.si] at e; cases e
  ·rw [h.k _ _ c z] at e; cases e
theorem Bo.same (h:Bo K H0 H A B W ss rows stk sl) (s:Same H H'):Bo K H0 H' A B W ss rows stk sl:=
 ⟨h.w,fun b o n e=>s _ _ (h.k b o n e),h.t.trans (Same.t s),h.f,s _ _ h.si,h.s.same s,h.fr,h.ll⟩
theorem ne0 {a b:Addr} {x:HO} (h:H0 a=some x) (e:H0 b=none):a≠b:=fun z=>by rw [z,e] at h; cases h
theorem Bo.addR (h:Bo K H0 H A B W ss rows stk sl) {us us':List V} {more:List Row} (e:H B.ra=some (.lst us)) (p:Paired (RowV K H) us rows) (p':Paired (RowV K H) us' more) (l:rows.length+more.length≤10000):Bo K H0 (upd H B.ra (.lst (us++us'))) A B W ss (rows++more) stk sl:=by
 obtain ⟨x,sx⟩:=h.si0
 have tt:=Z2l (.lst (us++us')) e Z2a
 refine ⟨h.w,fun b o n z=>?_,h.t.trans tt,h.f,by rw [Z0h (ne0 sx h.fr.2.1)]; exact h.si,⟨?_,⟨_,Z0e,Z1O (Paired.appendP p p') tt⟩,?_,?_,h.s.nd,h.s.hs⟩,h.fr,h.ll.1,by rw [List.length_append]; exact l,h.ll.2.2⟩
 ·rw [Z0h (ne0 z h.fr.2.1)]; exact h.k b o n z
 ·rw [Z0h (fun z=>by have:=h.s.d; rw [z,e] at this; cases this)]; exact h.s.d
 ·rw [Z0h h.s.nd.1.symm]; exact h.s.s
 ·rw [Z0h h.s.nd.2.1.symm]; exact h.s.l
theorem Bo.putS (h:Bo K H0 H A B W ss rows stk sl) {stk':List Kd} (hx:∀ k∈stk',k≠.hx) (l:stk'.length≤10000):Bo K H0 (upd H B.sa (.lst (stk'.map kd))) A B W ss rows stk' sl:=by
 obtain ⟨x,sx⟩:=h.si0
 have tt:=Z2l (.lst (stk'.map kd)) h.s.s Z2a
 obtain ⟨us,r1,r2⟩:=h.s.r
 refine ⟨h.w,fun b o n z=>?_,h.t.trans tt,h.f,by rw [Z0h (ne0 sx h.fr.2.2.1)]; exact h.si,⟨?_,⟨us,?_,Z1O r2 tt⟩,Z0e,?_,h.s.nd,hx,h.s.hs.2⟩,h.fr,h.ll.1,h.ll.2.1,l⟩
 ·rw [Z0h (ne0 z h.fr.2.2.1)]; exact h.k b o n z
 ·rw [Z0h (fun z=>by have:=h.s.d; rw [z,h.s.s] at this; cases this)]; exact h.s.d
 ·rw [Z0h h.s.nd.1]; exact r1
 ·rw [Z0h h.s.nd.2.2.symm]; exact h.s.l
theorem Bo.news (h:Bo K H0 H A B W ss rows stk sl) {q:Addr} {stk':List Kd} (hq:H q=none) (hx:∀ k∈stk',k≠.hx) (l:stk'.length≤10000):Bo K H0 (upd (upd H q (.lst (stk'.map kd))) B.st (.dK [(.inr "rows",.ref B.ra),(.inr "stack",.ref q),(.inr "slots",.ref B.la)])) A { B with sa:=q } W ss rows stk' sl:=by
 have s1:=Z0i hq (.lst (stk'.map kd))
 have e1:upd H q (.lst (stk'.map kd)) q=some (.lst (stk'.map kd)):=Z0e
 have h1:=h.same s1
 have hqd:∀ {a:Addr} {o:HO},H a=some o→a≠q:=fun {a o} e z=>by rw [z,hq] at e; cases e
 generalize upd H q (.lst (stk'.map kd))=H1 at *
 have tt:=Z2l (.dK [(.inr "rows",.ref B.ra),(.inr "stack",.ref q),(.inr "slots",.ref B.la)]) h1.s.d J0T
 obtain ⟨x,sx⟩:=h.si0
 obtain ⟨us,r1,r2⟩:=h1.s.r
 have nl:∀ {a:Addr} {xs:List V},H1 a=some (.lst xs)→a≠B.st:=fun {a xs} e z=>by rw [z,h1.s.d] at e; cases e
 obtain ⟨us0,r0,_⟩:=h.s.r
 refine ⟨h.w,fun b o n z=>?_,h1.t.trans tt,h.f,by rw [Z0h (ne0 sx h.fr.1)]; exact h1.si,⟨Z0e,⟨us,?_,Z1O r2 tt⟩,?_,?_,⟨hqd r0,h.s.nd.2.1,(hqd h.s.l).symm⟩,hx,h.s.hs.2⟩,⟨h.fr.1,h.fr.2.1,h.free hq,h.fr.2.2.2⟩,h.ll.1,h.ll.2.1,l⟩
 ·rw [Z0h (ne0 z h.fr.1)]; exact h1.k b o n z
 ·rw [Z0h (nl r1)]; exact r1
 ·rw [Z0h (nl e1)]; exact e1
 ·rw [Z0h (nl h1.s.l)]; exact h1.s.l
theorem Bo.slots (h:Bo K H0 H A B W ss rows stk sl) {sl':List (Option Kd)} (hx:∀ k,some k∈sl'→k≠.hx) (l:sl'.length≤10):Bo K H0 (upd H B.la (.lst (sl'.map okd))) A B W ss rows stk sl':=by
 obtain ⟨x,sx⟩:=h.si0
 have tt:=Z2l (.lst (sl'.map okd)) h.s.l Z2a
 obtain ⟨us,r1,r2⟩:=h.s.r
 refine ⟨h.w,fun b o n z=>?_,h.t.trans tt,h.f,by rw [Z0h (ne0 sx h.fr.2.2.2)]; exact h.si,⟨?_,⟨us,?_,Z1O r2 tt⟩,?_,Z0e,h.s.nd,h.s.hs.1,hx⟩,h.fr,l,h.ll.2⟩
 ·rw [Z0h (ne0 z h.fr.2.2.2)]; exact h.k b o n z
 ·rw [Z0h (fun z=>by have:=h.s.d; rw [z,h.s.l] at this; cases this)]; exact h.s.d
 ·rw [Z0h h.s.nd.2.1]; exact r1
 ·rw [Z0h h.s.nd.2.2]; exact h.s.s
theorem Bo.site (h:Bo K H0 H A B W ss rows stk sl) (w:Nat):Bo K H0 (upd H A.si (.lst [.int ((ss.length:Int)+1)])) A B W (ss++[w]) rows stk sl:=by
 obtain ⟨x,sx⟩:=h.si0
 have tt:=Z2l (.lst [.int ((ss.length:Int)+1)]) h.si Z2a
 obtain ⟨us,r1,r2⟩:=h.s.r
 refine ⟨h.w,fun b o n z=>?_,h.t.trans tt,h.f,?_,⟨?_,⟨us,?_,Z1O r2 tt⟩,?_,?_,h.s.nd,h.s.hs⟩,h.fr,h.ll⟩
 ·rw [Z0h n]; exact h.k b o n z
 ·rw [Z0e,List.length_append]; rfl
 ·rw [Z0h (ne0 sx h.fr.1).symm]; exact h.s.d
 ·rw [Z0h (ne0 sx h.fr.2.1).symm]; exact r1
 ·rw [Z0h (ne0 sx h.fr.2.2.1).symm]; exact h.s.s
 ·rw [Z0h (ne0 sx h.fr.2.2.2).symm]; exact h.s.l
end
inductive Z9c (K:W.Frag) (vs:List V) (H:Hp) (Q:VK):Prop
 | mk (H0:Hp) (A:WA) (B:SA) (W:Wo) (ss:List Nat) (rows:List Row) (stk:List Kd) (sl:List (Option Kd)) (ks:List Kd) (kl:Addr) (c:Int) (a1:vs=[.ref A.wd,.ref B.st,.ref kl,.int c]) (a2:Bo K H0 H A B W ss rows stk sl) (a3:H kl=some (.lst (ks.map kd))) (a4:kl≠B.ra) (a5:ks.length≤3) (a6:(∀ k∈ks,k≠.hx)) (a7:rows.length≤9000) (a8:∀ B' rows' stk' H',Bo K H0 H' A B' W ss rows' stk' sl→B'.st=B.st→Ex W ss 27 rows sl stk.reverse rows' sl (ks.reverse++stk'.reverse)→stk'.length≤stk.length→Q .non H'):Z9c K vs H Q
def Z3G (K:W.Frag):Sp:=fun vs H Q _=>Z9c K vs H Q
section
variable {C_Places C_Machine D_ROW_SIGNS:Addr} {P:Program} {w:World} {K:W.Frag} {mg:Str→Option Value} {base:Heap}
theorem Z9x {K:W.Frag} {H:Hp} {a:Addr} {ks:List Kd} (h:H a=some (.lst (ks.map kd))):RdD K H (.ref a) (.list (ks.map fun k=>okD (some k))):=by
 refine .lst (SqL.of h) ?_
 clear h
 induction ks with
 | nil=>exact .nil
 | cons k ks ih=>exact .cons (J4d k) ih
theorem Z9l (xs:List V) (n:Nat) (h:n≤xs.length):cutV xs none (some (n:Int))=xs.take n:=by
 unfold cutV
 have e1:HT.sIx xs.length xs.length (some (n:Int))=n:=by rw [HT.sIx_nat]; omega
 have e2:HT.sIx xs.length 0 none=0:=rfl
 rw [e1,e2,List.drop_zero,Nat.sub_zero]
theorem Z8r (xs:List V) (n:Nat) (h:n≤xs.length):cutV xs (some (n:Int)) none=xs.drop n:=by
 unfold cutV
 have e1:HT.sIx xs.length 0 (some (n:Int))=n:=by rw [HT.sIx_nat]; omega
 have e2:HT.sIx xs.length xs.length none=xs.length:=rfl
 rw [e1,e2,List.take_of_length_le (by rw [List.length_drop]; exact Nat.le_refl _)]
theorem J1q:∀ {a b:List Kd},(∀ k∈a,k≠.hx)→(∀ k∈b,k≠.hx)→PyData.eqvAll (a.map fun k=>okD (some k)) (b.map fun k=>okD (some k))=true→a=b
 | [],[],_,_,_=>rfl
 | [],y::ys,_,_,h=>by simp [PyData.eqvAll] at h
 | x::xs,[],_,_,h=>by simp [PyData.eqvAll] at h
 | x::xs,y::ys,ha,hb,h=>by
  have h':((okD (some x)).eqv (okD (some y))&&PyData.eqvAll (xs.map fun k=>okD (some k)) (ys.map fun k=>okD (some k)))=true:=by
   have:=h
   simp only [List.map_cons,PyData.eqvAll] at this
   exact this
  rw [Bool.and_eq_true,J1s (fun z=>ha x List.mem_cons_self (Option.some.inj z)) (hb y List.mem_cons_self)] at h'
  obtain ⟨h1,h2⟩:=h'
  rw [Option.some.inj (of_decide_eq_true h1),J1q (fun k hk=>ha k (List.mem_cons_of_mem _ hk)) (fun k hk=>hb k (List.mem_cons_of_mem _ hk)) h2]
theorem J5T {a b:List Kd} (ha:∀ k∈a,k≠.hx) (hb:∀ k∈b,k≠.hx) (h:(PyData.list (a.map fun k=>okD (some k))).eqv (.list (b.map fun k=>okD (some k)))=true):a=b:=J1q ha hb (by
 have:=h
 simp only [PyData.eqv] at this
 exact this)
theorem J6E (a:List Kd):L2.NbL 0 (2 * a.length) (a.map fun k=>okD (some k)):=by
 induction a with
 | nil=>exact .nil
 | cons k a ih=>exact .cons (a:=1) (by cases k <;> exact .str (by decide +kernel) (by decide +kernel)) ih (by rw [List.length_cons]; omega)
theorem J3U (a:List Kd):SeqAt.shaped (.list (a.map fun k=>okD (some k)))=true:=(L2.Nb.lst (J6E a)).shaped (by first | decide | omega)
noncomputable def WTI (K:W.Frag) (H0:Hp) (A:WA) (B:SA) (W:Wo) (ss:List Nat) (rows:List Row) (stk:List Kd) (sl:List (Option Kd)) (ks:List Kd) (kl:Addr) (σ0:St) (i:Nat) (σ:St) (H:Hp):Prop:=∃ rows' o,Bo K H0 H A B W ss rows' stk sl∧H kl=some (.lst (ks.map kd))∧Ex W ss (9 * i) rows sl stk.reverse rows' sl ((ks.take i).reverse++stk.reverse)∧σ=σ0++[o]
theorem J2h (T:Txt P w K mg C_Places C_Machine D_ROW_SIGNS) (h__law_mixed:Has P w K mg base 1 "_law_mixed" ["_law_cell","_law_k"] Z2Y) (h__law_push:Has P w K mg base 4 "_law_push" ["_law_world_here","_law_state","_law_kind","_law_cell"] (Z5k K)):Has P w K mg base 5 "_law_want" ["_law_world_here","_law_state","_law_kinds","_law_cell"] (Z3G K):=by
 refine Has.of T.f__law_want sc__law_want (fun _ _ _ _ _ _ us hl=>el4 us hl fun _ _ _ _=>rfl) (fun vs H Q E h=>?_) (fun f cdv A outer s H vs Q E hr h=>?_)
 ·obtain ⟨H0,A,B,W,ss,rows,stk,sl,ks,kl,c,rfl,_⟩:=h
  rfl
 obtain ⟨H0,A',B,W,ss,rows,stk,sl,ks,kl,c,rfl,hb,hkl,nkl,lks,hks,lro,q⟩:=h
 refine ⟨_,(Z0d (Z0I (i:=4) sc__law_want.nd rfl (Or.inl rfl) (Z0q Z0l rfl T.z_len Z0O (Z0a (pvF 2) Z0b)))
  (Z0d (Z0I (i:=5) sc__law_want.nd rfl (Or.inl rfl) (Z0q (Z9h rfl) rfl T.z_max J3X (Z0a Z0c (Z0a (Z0k Z2r (Z0q Z0l rfl T.z_len Z0O (Z0a (Z0n (Z0F hr) (pvF 1) Z0g (fun _ _=>rfl)) Z0b)) (pvF 4)) Z0b))))
  (Z0f (Z0L (Z0m (r:=rEqD K) (Z4I hr.units) (Z1i (r:=rSlL K) Z5t (Z0n (Z0F hr) (pvF 1) Z0g (fun _ _=>rfl)) (Z1I (pvF 5)) Z1D) (pvF 2) (Z0o _)) (Z0f (Z3D (Z0F hr) (pvF 1) Z0g (Z1i (r:=rSlL K) Z5t (Z0n (Z0F hr) (pvF 1) Z0g (fun _ _=>rfl)) Z1D (Z1I (pvF 5))) rfl)) (Z0f (Z3g PassesOwn.never rfl (Z0Q rfl T.z_range (Z0a (pvF 4) Z0b)) (Z0v (i:=6) sc__law_want.nd rfl (Or.inl rfl)) (Z0f (Z0p (Z1h PySem.F.plainAttrs_list PySem.F.slot_list_extend PySem.F.type_list_extend Z2A (Z0n (Z0F hr) (pvF 1) Z0g (fun _ _=>rfl)) (Z0a (Z0x h__law_push hr (by first | decide | omega) rfl (Z0a (pvF 0) (Z0a (pvF 1) (Z0a (Z0u (r:=Z0U K) Z0w (pvF 2) (pvF 6) (fun _ _=>rfl)) (Z0a (Z0x h__law_mixed hr (by first | decide | omega) rfl (Z0a (pvF 3) (Z0a (pvF 6) Z0b))) Z0b))))) Z0b)))))))))),?_⟩
 refine seq3 fun uz2 huz2 uz1 huz1=>?_
 walk_at "rd"
 refine ⟨_,.inl (SqL.of hkl),?_⟩
 rw [List.length_map]
 subst huz1
 walk_at "rd"
 refine ⟨_,hb.s.get.2.1,B.sa,rfl,_,.inl (SqL.of hb.s.s),?_⟩
 rw [List.length_map,show (if (stk.length:Int) - ks.length > 0 then (stk.length:Int) - ks.length else 0)=((stk.length - ks.length:Nat):Int) by split <;> omega]
 generalize hn:stk.length - ks.length=n
 have nle:n≤stk.length:=by omega
 subst huz2
 walk_at "rd"
 refine ⟨_,hb.s.get.2.1,B.sa,rfl,_,SqL.of hb.s.s,New.of fun l1 H1 h1 s1 e1=>?_⟩
 rw [Z8r _ n (by rw [List.length_map]; exact nle),← List.map_drop] at e1
 have hb1:=hb.same s1
 have hk1:=s1 _ _ hkl
 have hxd:∀ k∈stk.drop n,k≠.hx:=fun k hk=>hb.s.hs.1 k (List.mem_of_mem_drop hk)
 refine ⟨_,Z9x e1,_,Z9x hk1,J3U _,J3U _,ite2 (fun z=>?_) (fun _=>?_)⟩
 ·have e:=J5T hxd hks z
  refine ⟨_,hb1.s.get.2.1,B.sa,rfl,_,SqL.of hb1.s.s,fun l2 h2=>?_⟩
  rw [Z9l _ n (by rw [List.length_map]; exact nle),← List.map_take]
  have hb2:=hb1.news (stk':=stk.take n) h2 (fun k hk=>hb.s.hs.1 k (List.mem_of_mem_take hk)) (by rw [List.length_take]; have:=hb.ll.2.2; omega)
  refine ⟨_,DPut.k (k:=.inr "stack") ((Z0i h2 _) _ _ hb1.s.d) (by rw [sizeLine_eq]; show 3 < _; omega),q { B with sa:=l2 } rows _ _ hb2 rfl ?_ (by rw [List.length_take]; omega)⟩
  have es:stk.reverse=ks.reverse++(stk.take n).reverse:=by rw [← e,← List.reverse_append,List.take_append_drop]
  rw [← es]
  exact Ex.refl.le (by omega)
 ·rw [Int.toNat_natCast]
  refine ⟨by omega,by omega,Z1n (WTI K H0 A' B W ss rows stk sl ks kl [some (.ref A'.wd),some (.ref B.st),some (.ref kl),some (.int c),some (.int ks.length),some (.int n)]) ⟨rows,none,hb1,hk1,Ex.refl,rfl⟩ (fun i σ H2 hi hI=>?_) (fun σ H2 hI=>?_)⟩
  ·obtain ⟨rows',o,hb2,hk2,ex2,rfl⟩:=hI
   rw [Int.zero_add]
   have hik:=List.getElem?_eq_getElem hi
   obtain ⟨us,u1,u2⟩:=hb2.s.r
   have lr:=ex2.len
   have lus:us.length=rows'.length:=u2.length
   walk_at "rd"
   refine ⟨_,hb2.s.get.1,.inl ⟨rfl,_,SqL.of u1⟩,_,SqL.of hk2,_,Z0P (by rw [List.getElem?_map,hik]; rfl),c,i,rfl,fun r hr=>⟨A',B,W,ss.length,r,rows',stk,sl,ks[i],rfl,hb2.wo,hb2.f,hb2.s,hks _ (List.getElem_mem _),hb2.ll.1,fun l3 more H3 nr sg le=>?_⟩⟩
   obtain ⟨s3,h3,us3,e3,p3⟩:=nr
   have hb3:=hb2.same s3
   have lus3:us3.length=more.length:=p3.length
   refine ⟨B.ra,rfl,l3,rfl,_,s3 _ _ u1,_,e3,by omega,rows'++more,_,hb3.addR (s3 _ _ u1) (Z1O u2 (Same.t s3)) p3 (by omega),?_,?_,rfl⟩
   ·rw [Z0h nkl]; exact s3 _ _ hk2
   ·rw [List.take_succ,hik]
    refine (ex2.trans ⟨more,rfl,le,?_⟩).le (by omega)
    have:=sg ss ((ks.take i).reverse++stk.reverse)
    rw [show (ks.take i++(some ks[i]).toList).reverse++stk.reverse=ks[i]::((ks.take i).reverse++stk.reverse) by rw [Option.toList_some,List.reverse_append]; rfl]
    exact this
  ·obtain ⟨rows',o,hb2,hk2,ex2,rfl⟩:=hI
   rw [List.take_of_length_le (Nat.le_refl _)] at ex2
   exact q B rows' stk H2 hb2 rfl (ex2.le (by omega)) (Nat.le_refl _)
end
end K65
end
section
set_option format.width 300
namespace K65
open PySem L2 MM
open Mach (AV AFr Row Sg Blk MS PL Mem getP updM seen Z0K Bd)
seal L2.PE L2.PA L2.PT L2.PS L2.PSs L2.PG L2.PGs L2.PI L2.PW
open MT (Kd fk Wo VT Seg Sf)
def PcQ (K:W.Frag) (H0:Hp) (A:WA) (B:SA) (W:Wo) (ss:List Nat) (rows:List Row) (stk:List Kd) (sl:List (Option Kd)) (Q:VK):Prop:=
 ∀ B' x rows' stk' sl' H',x.length≤1→Bo K H0 H' A B' W (ss++x) rows' stk' sl'→B'.st=B.st→sl'.length=sl.length→Ex W (ss++x) 60 rows sl stk.reverse rows' sl' stk'.reverse→stk'.length≤stk.length+1→Q .non H'
inductive Z6Z (K:W.Frag) (vs:List V) (H:Hp) (Q:VK):Prop
 | mk (H0:Hp) (A:WA) (B:SA) (W:Wo) (ss:List Nat) (rows:List Row) (stk:List Kd) (sl:List (Option Kd)) (c:Nat) (a1:vs=[.ref A.wd,.ref B.st,.int c]) (a2:Bo K H0 H A B W ss rows stk sl) (a3:rows.length≤8000) (a4:stk.length≤100) (a5:2≤sl.length) (a6:PcQ K H0 A B W ss rows stk sl Q):Z6Z K vs H Q
def Z1F (K:W.Frag):Sp:=fun vs H Q _=>Z6Z K vs H Q
section
variable {K:W.Frag} {H0 H:Hp} {A:WA} {B:SA} {W:Wo} {ss:List Nat} {rows:List Row} {stk:List Kd} {sl:List (Option Kd)}
theorem Bo.row1 (h:Bo K H0 H A B W ss rows stk sl) {t:Addr} {row:Row} (ht:RowAt K H t row) (l:rows.length≤9990):∃ us,H B.ra=some (.lst us)∧us.length < 16777216∧Bo K H0 (upd H B.ra (.lst (us++[.ref t]))) A B W ss (rows++[row]) stk sl:=by
 obtain ⟨us,u1,u2⟩:=h.s.r
 have:=u2.length
 exact ⟨us,u1,by omega,h.addR u1 u2 (.cons ⟨t,rfl,ht⟩ .nil) (by show _+1≤_; omega)⟩
theorem Bo.rows1 (h:Bo K H0 H A B W ss rows stk sl) {us':List V} {more:List Row} (p:Paired (RowV K H) us' more) (l:rows.length+more.length≤9990):∃ us,H B.ra=some (.lst us)∧us.length+us'.length≤16777216∧Bo K H0 (upd H B.ra (.lst (us++us'))) A B W ss (rows++more) stk sl:=by
 obtain ⟨us,u1,u2⟩:=h.s.r
 have:=u2.length
 have:=p.length
 exact ⟨us,u1,by omega,h.addR u1 u2 p (by omega)⟩
theorem Bo.stk1 (h:Bo K H0 H A B W ss rows stk sl) {k:Kd} (hk:k≠.hx) (l:stk.length≤9990):H B.sa=some (.lst (stk.map kd))∧(stk.map kd).length < 16777216∧Bo K H0 (upd H B.sa (.lst (stk.map kd++[kd k]))) A B W ss rows (stk++[k]) sl:=by
 refine ⟨h.s.s,by rw [List.length_map]; omega,?_⟩
 have:=h.putS (stk':=stk++[k]) (fun x hx=>(List.mem_append.mp hx).elim (h.s.hs.1 x) fun z=>by cases List.mem_singleton.mp z; exact hk) (by rw [List.length_append]; show _+1≤_; omega)
 rw [List.map_append] at this
 exact this
theorem Bo.tyR (h:Bo K H0 H A B W ss rows stk sl):tyV K "list" (V.ref B.ra) H:=let ⟨_,u,_⟩:=h.s.r; .inl ⟨rfl,_,SqL.of u⟩
theorem Bo.tyS (h:Bo K H0 H A B W ss rows stk sl):tyV K "list" (V.ref B.sa) H:=.inl ⟨rfl,_,SqL.of h.s.s⟩
theorem PcQ.z {Q:VK} (q:PcQ K H0 A B W ss rows stk sl Q):∀ B' rows' stk' sl' H',Bo K H0 H' A B' W ss rows' stk' sl'→B'.st=B.st→sl'.length=sl.length→Ex W ss 60 rows sl stk.reverse rows' sl' stk'.reverse→stk'.length≤stk.length+1→Q .non H':=fun B' rows' stk' sl' H' h=>by
 have:=q B' [] rows' stk' sl' H'
 rw [List.append_nil] at this
 exact this (Nat.zero_le _) h
theorem J1K {j:Int} (h:0≤j∧j < 3):∃ k x,k≠Kd.hx∧atI (Str.ofString "nth").cps.toList j=some x∧V.str { cps:=#[x] }=kd k:=by
 rcases (show j=0∨j=1∨j=2 by omega) with e | e | e
 ·subst e; exact ⟨.n,110,Kd.noConfusion,by decide +kernel,congrArg V.str (by decide +kernel)⟩
 ·subst e; exact ⟨.t,116,Kd.noConfusion,by decide +kernel,congrArg V.str (by decide +kernel)⟩
 ·subst e; exact ⟨.h,104,Kd.noConfusion,by decide +kernel,congrArg V.str (by decide +kernel)⟩
theorem rev1 {k:Kd}:(stk++[k]).reverse=k::stk.reverse:=by rw [List.reverse_append]; rfl
end
section
variable {C_Places C_Machine D_ROW_SIGNS:Addr} {P:Program} {w:World} {K:W.Frag} {mg:Str→Option Value} {base:Heap}
theorem Z9p (T:Txt P w K mg C_Places C_Machine D_ROW_SIGNS) (h__law_mixed:Has P w K mg base 1 "_law_mixed" ["_law_cell","_law_k"] Z2Y) (h__law_push:Has P w K mg base 4 "_law_push" ["_law_world_here","_law_state","_law_kind","_law_cell"] (Z5k K)) (h__law_want:Has P w K mg base 5 "_law_want" ["_law_world_here","_law_state","_law_kinds","_law_cell"] (Z3G K)):Has P w K mg base 6 "_law_branch" ["_law_world_here","_law_state","_law_more"] (Z1F K):=by
 refine Has.of T.f__law_branch sc__law_branch (fun _ _ _ _ _ _ us hl=>el3 us hl fun _ _ _=>rfl) (fun vs H Q E h=>?_) (fun f cdv A outer s H vs Q E hr h=>?_)
 ·obtain ⟨H0,A,B,W,ss,rows,stk,sl,c,rfl,_⟩:=h
  rfl
 obtain ⟨H0,A',B,W,ss,rows,stk,sl,c,rfl,hb,lro,lst,lsl,q⟩:=h
 refine ⟨_,(Z0d (Z0p (Z0x h__law_want hr (by first | decide | omega) rfl (Z0a (pvF 0) (Z0a (pvF 1) (Z0a (Z0D (Z0a Z0g Z0b)) (Z0a (pvF 2) Z0b))))))
  (Z0d (Z0L (Z0m Z0R (Z0k Z0G (pvF 2) Z0c) Z0c (Z0o _)) (Z0d (Z0p (Z1h PySem.F.plainAttrs_list PySem.F.slot_list_append PySem.F.type_list_append Z0z (Z0n (Z0F hr) (pvF 1) Z0g (fun _ _=>rfl)) (Z0a (Z0A (Z0a Z0g Z0b)) Z0b)))
  (Z0d (Z0p (Z1h PySem.F.plainAttrs_list PySem.F.slot_list_append PySem.F.type_list_append Z0z (Z0n (Z0F hr) (pvF 1) Z0g (fun _ _=>rfl)) (Z0a Z0g Z0b)))
  (Z0f Z6w))) Z0C)
  (Z0d (Z0I (i:=3) sc__law_branch.nd rfl (Or.inl rfl) (Z0u Z3L Z0g (Z0k Z0G (Z0k Z0E (pvF 2) Z0c) Z0c) (fun _ _=>rfl)))
  (Z0d (Z0I (i:=4) sc__law_branch.nd rfl (Or.inl rfl) (Z0x h__law_push hr (by first | decide | omega) rfl (Z0a (pvF 0) (Z0a (pvF 1) (Z0a (pvF 3) (Z0a (Z0x h__law_mixed hr (by first | decide | omega) rfl (Z0a (pvF 2) (Z0a Z0c Z0b))) Z0b))))))
  (Z0d (Z0I (i:=5) sc__law_branch.nd rfl (Or.inl rfl) (Z0x h__law_push hr (by first | decide | omega) rfl (Z0a (pvF 0) (Z0a (pvF 1) (Z0a (pvF 3) (Z0a (Z0x h__law_mixed hr (by first | decide | omega) rfl (Z0a (pvF 2) (Z0a Z0c Z0b))) Z0b))))))
  (Z0d (Z0p (Z1h PySem.F.plainAttrs_list PySem.F.slot_list_extend PySem.F.type_list_extend Z2A (Z0n (Z0F hr) (pvF 1) Z0g (fun _ _=>rfl)) (Z0a (Z0k Z2D (Z0k Z2D (Z0k Z2D (Z0D (Z0a (Z0A (Z0a Z0g (Z0a (Z0k Z0N (Z0q Z0l rfl T.z_len Z0O (Z0a (pvF 4) Z0b)) Z0c) Z0b))) Z0b)) (pvF 4)) (Z0D (Z0a (Z0A (Z0a Z0g (Z0a (Z0q Z0l rfl T.z_len Z0O (Z0a (pvF 5) Z0b)) Z0b))) Z0b))) (pvF 5)) Z0b)))
  (Z0f (Z0p (Z1h PySem.F.plainAttrs_list PySem.F.slot_list_append PySem.F.type_list_append Z0z (Z0n (Z0F hr) (pvF 1) Z0g (fun _ _=>rfl)) (Z0a (pvF 3) Z0b)))))))))),?_⟩
 refine seq7 fun uz6 huz6 uz5 huz5 uz4 huz4 uz3 huz3 uz2 huz2 uz1 huz1=>?_
 walk_at "rd"
 refine New.of fun l1 H1 h1 s1 e1=>?_
 have hb1:=hb.same s1
 obtain ⟨us0,u0,_⟩:=hb.s.r
 refine ⟨H0,A',B,W,ss,rows,stk,sl,[.t],l1,c,rfl,hb1,e1,(fun z=>by rw [z,u0] at h1; cases h1),by show 1≤3; omega,(fun k hk=>by cases List.mem_singleton.mp hk; exact Kd.noConfusion),by omega,fun B2 rows2 stk2 H2 hb2 st2 ex2 l2=>?_⟩
 have lr2:=ex2.len
 subst huz1
 walk_at "rd"
 rw [← st2]
 refine ite2 (fun z=>⟨_,hb2.s.get.1,hb2.tyR,New.of fun t H3 h3 s3 e3=>?_⟩) (fun z=>?_)
 ·obtain ⟨us,u1,ul,hb4⟩:=(hb2.same s3).row1 (row:=.nt) (SqT.of e3) (by omega)
  refine ⟨B2.ra,rfl,us,u1,ul,?_⟩
  generalize upd H3 B2.ra (.lst (us++[.ref t]))=H4 at hb4 ⊢
  obtain ⟨v1,v2,hb5⟩:=hb4.stk1 (k:=.t) Kd.noConfusion (by omega)
  refine ⟨_,hb4.s.get.2.1,hb4.tyS,B2.sa,rfl,_,v1,v2,q.z B2 _ _ _ _ hb5 st2 rfl ?_ (by rw [List.length_append]; show _+1≤_; omega)⟩
  rw [rev1]
  exact (ex2.trans (Ex.one fun x told r h=>.nt h)).le (by omega)
 subst huz2
 walk_at "rd"
 obtain ⟨kk,x,nk,ax,ex⟩:=J1K (j:=(c:Int) / 3 % 3) (by omega)
 refine ⟨by decide +kernel,x,ax,?_⟩
 rw [ex]
 subst huz3
 walk_at "rd"
 refine ⟨_,_,rfl,fun r hr=>⟨A',B2,W,ss.length,r,rows2,stk2,sl,kk,rfl,hb2.wo,hb2.f,hb2.s,nk,hb2.ll.1,fun l3 m3 H3 nr3 sg3 le3=>?_⟩⟩
 obtain ⟨s3,h3,us3,e3,p3⟩:=nr3
 have hb3:=hb2.same s3
 subst huz4
 walk_at "rd"
 refine ⟨_,_,rfl,fun r hr=>⟨A',B2,W,ss.length,r,rows2,stk2,sl,kk,rfl,hb3.wo,hb3.f,hb3.s,nk,hb3.ll.1,fun l4 m4 H4 nr4 sg4 le4=>?_⟩⟩
 obtain ⟨s4,h4,us4,e4,p4⟩:=nr4
 have hb4:=hb3.same s4
 subst huz5
 walk_at "rd"
 have l3':us3.length=m3.length:=p3.length
 have l4':us4.length=m4.length:=p4.length
 refine ⟨_,hb4.s.get.1,hb4.tyR,_,.inl (SqL.of (s4 _ _ e3)),New.of fun t5 H5 h5 s5 e5=>New.of fun l6 H6 h6 s6 e6=>⟨_,e6,_,(s4.trans (s5.trans s6)) _ _ e3,by show 1+_≤_; omega,New.of fun l7 H7 h7 s7 e7=>⟨_,.inl (SqL.of ((s5.trans (s6.trans s7)) _ _ e4)),New.of fun t8 H8 h8 s8 e8=>New.of fun l9 H9 h9 s9 e9=>⟨_,(s8.trans s9) _ _ e7,_,e9,by simp only [List.length_append,List.length_cons,List.length_nil]; omega,New.of fun la Ha ha sa ea=>⟨_,ea,_,(s5.trans (s6.trans (s7.trans (s8.trans (s9.trans sa))))) _ _ e4,by simp only [List.length_append,List.length_cons,List.length_nil]; omega,New.of fun lb Hb hb' sb eb=>?_⟩⟩⟩⟩⟩
 have S5:=s5.trans (s6.trans (s7.trans (s8.trans (s9.trans (sa.trans sb)))))
 have pr:Paired (RowV K Hb) ([V.ref t5]++us3++[V.ref t8]++us4) ([.unl (m3.length+1)]++m3++[.skip m4.length]++m4):=by
  refine Paired.appendP (Paired.appendP (Paired.appendP (.cons ⟨t5,rfl,?_⟩ .nil) (Z1O p3 (Same.t (s4.trans S5)))) (.cons ⟨t8,rfl,?_⟩ .nil)) (Z1O p4 (Same.t S5))
  ·rw [l3'] at e5
   exact SqT.of ((s6.trans (s7.trans (s8.trans (s9.trans (sa.trans sb))))) _ _ e5)
  ·rw [l4'] at e8
   exact SqT.of ((s9.trans (sa.trans sb)) _ _ e8)
 obtain ⟨us,u1,ul,hbb⟩:=(hb4.same S5).rows1 pr (by simp only [List.length_append,List.length_cons,List.length_nil]; omega)
 refine ⟨B2.ra,rfl,us,u1,_,eb,ul,?_⟩
 generalize upd Hb B2.ra (.lst (us++([V.ref t5]++us3++[V.ref t8]++us4)))=Hc at hbb ⊢
 subst huz6
 walk_at "rd"
 obtain ⟨v1,v2,hb5⟩:=hbb.stk1 (k:=kk) nk (by omega)
 refine ⟨_,hbb.s.get.2.1,hbb.tyS,B2.sa,rfl,_,v1,v2,q.z B2 _ _ _ _ hb5 st2 rfl ?_ (by rw [List.length_append]; show _+1≤_; omega)⟩
 rw [rev1]
 exact (ex2.trans ⟨_,rfl,(by simp only [List.length_append,List.length_cons,List.length_nil]; omega:_≤20),Seg.branch (sg3 ss _) (sg4 ss _) (by omega) (by omega)⟩).le (by omega)
end
end K65
end
section
set_option format.width 300
namespace K65
open PySem L2 MM
open Mach (AV AFr Row Sg Blk MS PL Mem getP updM seen Z0K Bd)
seal L2.PE L2.PA L2.PT L2.PS L2.PSs L2.PG L2.PGs L2.PI L2.PW
open MT (Kd fk Wo VT Seg Sf)
inductive Z4V (K:W.Frag) (vs:List V) (H:Hp) (Q:VK):Prop
 | mk (H0:Hp) (A:WA) (B:SA) (W:Wo) (ss:List Nat) (rows:List Row) (stk:List Kd) (sl:List (Option Kd)) (c:Nat) (a1:vs=[.ref B.st,.int c]) (a2:Bo K H0 H A B W ss rows stk sl) (a3:rows.length≤8000) (a4:stk.length≤100) (a5:2≤sl.length) (a6:PcQ K H0 A B W ss rows stk sl Q):Z4V K vs H Q
def Z4H (K:W.Frag):Sp:=fun vs H Q _=>Z4V K vs H Q
theorem Z8g {o:Option (Option Kd)} (h:o.join.isSome=true):∃ k,o=some (some k):=by
 cases o with
 | none=>cases h
 | some o=>cases o with
  | none=>cases h
  | some k=>exact ⟨k,rfl⟩
section
variable {C_Places C_Machine D_ROW_SIGNS:Addr} {P:Program} {w:World} {K:W.Frag} {mg:Str→Option Value} {base:Heap}
theorem Z7Z (T:Txt P w K mg C_Places C_Machine D_ROW_SIGNS):Has P w K mg base 1 "_law_slotted" ["_law_state","_law_more"] (Z4H K):=by
  refine Has.of T.f__law_slotted sc__law_slotted (fun _ _ _ _ _ _ us hl=>el2 us hl fun _ _=>rfl) (fun vs H Q E h=>?_) (fun f cdv A outer s H vs Q E hr h=>?_)
  · obtain ⟨H0,A,B,W,ss,rows,stk,sl,c,rfl,_⟩:=h
    rfl
  obtain ⟨H0,A',B,W,ss,rows,stk,sl,c,rfl,hb,lro,lst,lsl,q⟩:=h
  refine ⟨_,(Z0d (Z0I (i:=2) sc__law_slotted.nd rfl (Or.inl rfl) (Z0q Z0l rfl T.z_len Z0O (Z0a (Z0n (Z0F hr) (pvF 0) Z0g (fun _ _=>rfl)) Z0b)))
    (Z0d (Z2k rfl sc__law_slotted.nd (i:=3) rfl rfl (BlockOk.of (N:=["_law_k","_law_state"]) (nl:=[none,some 0]) (cl:=[("_law_state",s.heap.objs.size+1)]) rfl (by decide +kernel) (by decide +kernel) rfl (sub1 rfl) (nm:=["_law_state"]) rfl (by decide +kernel) rfl (fun i hi j hj=>by
            match i,hi with
            | 0,_=>cases hj
             | 1,_=>cases hj; exact ⟨_,rfl,rfl,rfl,.inl rfl⟩
            )) (Z0Q rfl T.z_range (Z0a (pvF 2) Z0b))
          (fun C fp s H=>(Z0v (i:=0) (show (["_law_k","_law_state"]:List Str).Nodup by decide +kernel) rfl (Or.inl rfl)))
          (fun C fp s H=>(Z0m Z5f (Z0u (r:=Z0U K) Z0w (Z0n (Z0F hr) (pvF 1) Z0g (fun _ _=>rfl)) (pvF 0) (fun _ _=>rfl)) Z1E (Z0o _))) (fun C fp s H=>(pvF 0)))
    (Z0f (Z0L (PW.pt (Z3M (Z0m Z0R (Z0k Z0G (pvF 1) Z0c) Z0c (Z0o _)) (Z2Q (Z0m (r:=rNeN K) (Z6X hr.units) (Z0n (Z0F hr) (pvF 0) Z0g (fun _ _=>rfl)) (Z0D Z0b) (Z0o _))))) (Z0d (Z0I (i:=4) sc__law_slotted.nd rfl (Or.inl rfl) (Z0k Z2r (Z0k Z2r (pvF 2) Z0c) (Z0k Z0G (Z0k Z0E (pvF 1) Z0c) Z0c)))
    (Z0d (Z1x (Z9H PySem.F.plainAttrs_list PySem.F.slot_list_pop PySem.F.type_list_pop Z8Q (Z0n (Z0F hr) (pvF 0) Z0g (fun _ _=>rfl))) (Z3t (Z0n (Z0F hr) (pvF 0) Z0g (fun _ _=>rfl)) (pvF 4) Z1M))
    (Z0f (Z0p (Z1h PySem.F.plainAttrs_list PySem.F.slot_list_append PySem.F.type_list_append Z0z (Z0n (Z0F hr) (pvF 0) Z0g (fun _ _=>rfl)) (Z0a (Z0A (Z0a Z0g (Z0a (pvF 4) Z0b))) Z0b)))))) (Z0f (Z0L (Z0m (r:=rNeN K) (Z6X hr.units) (pvF 3) (Z0D Z0b) (Z0o _)) (Z0d (Z0I (i:=4) sc__law_slotted.nd rfl (Or.inl rfl) (Z0u (r:=Z0U K) Z0w (pvF 3) (Z0k Z0G (Z0k Z0E (pvF 1) Z0c) (Z0q Z0l rfl T.z_len Z0O (Z0a (pvF 3) Z0b))) (fun _ _=>rfl)))
    (Z0d (Z0p (Z1h PySem.F.plainAttrs_list PySem.F.slot_list_append PySem.F.type_list_append Z0z (Z0n (Z0F hr) (pvF 0) Z0g (fun _ _=>rfl)) (Z0a (Z0A (Z0a Z0g (Z0a (pvF 4) Z0b))) Z0b)))
    (Z0f (Z0p (Z1h PySem.F.plainAttrs_list PySem.F.slot_list_append PySem.F.type_list_append Z0z (Z0n (Z0F hr) (pvF 0) Z0g (fun _ _=>rfl)) (Z0a (Z0u (r:=Z0U K) Z0w (Z0n (Z0F hr) (pvF 0) Z0g (fun _ _=>rfl)) (pvF 4) (fun _ _=>rfl)) Z0b)))))) Z0C)))))),?_⟩
  refine seq3 fun uz2 huz2 uz1 huz1=>?_
  walk_at "rd"
  refine ⟨_,hb.s.get.2.2,B.la,rfl,_,.inl (SqL.of hb.s.l),?_⟩
  rw [List.length_map]
  have ll:=hb.ll.1
  subst huz1
  walk_at "rd"
  refine ⟨by omega,by omega,fun D hD=>?_⟩
  rw [Int.toNat_natCast]
  refine Z2V none [some (.ref B.st)] (fun i=>(sl[i]?).join.isSome) rfl hD (by rw [sizeLine_eq]; omega) (fun i hi H1 K' s1 kk=>?_) (fun H1 s1 e1=>?_)
  · have hb1:=hb.same s1
    have hi':i < sl.length:=hi
    walk_at "rd"
    have e:atI (sl.map okd) (i:Int)=some (okd sl[i]):=Z0P (by rw [List.getElem?_map,List.getElem?_eq_getElem hi']; rfl)
    refine ⟨_,hb1.s.get.2.2,B.la,rfl,_,SqL.of hb1.s.l,_,e,?_⟩
    have:=kk _ (Same.refl _)
    rw [List.getElem?_eq_getElem hi'] at this
    cases ho:sl[i] with
    | none=>
      rw [ho] at this
      exact this
    | some k=>
      rw [ho] at this
      cases k <;> exact this
  have hb1:=hb.same s1
  generalize hks:(List.range sl.length).filter (fun i=>(sl[i]?).join.isSome)=ks at e1
  have ink:∀ i∈ks,∃ k,sl[i]?=some (some k):=fun i hi=>by rw [← hks] at hi; exact Z8g (List.mem_filter.mp hi).2
  have lks:ks.length≤10:=by rw [← hks]; exact Nat.le_trans (List.length_filter_le _ _) (by rw [List.length_range]; exact ll)
  subst huz2
  walk_at "rd"
  have fin:∀ H2,Same H1 H2→New H2 (HO.lst []) fun p H2=>∃ x,SqL K H2 D x∧SqL K H2 p []∧if x.isEmpty=false then ∃ x,(SqL K H2 D x∨SqT K H2 D x)∧0 < (x.length:Int)∧IxL K D ((c:Int) / 2 % x.length) H2 fun x H1=>∃ x_1,DGet H1 B.st (V.str (Str.ofString "rows")) (some x_1)∧tyV K "list" x_1 H1∧New H1 (HO.tup [V.str (Str.ofString "load"),x]) fun p H2=>∃ l,x_1=V.ref l∧∃ x_2,H2 l=some (HO.lst x_2)∧x_2.length < 16777216∧∃ x_3,DGet (upd H2 l (HO.lst (x_2++[V.ref p]))) B.st (V.str (Str.ofString "stack")) (some x_3)∧tyV K "list" x_3 (upd H2 l (HO.lst (x_2++[V.ref p])))∧∃ x_4,DGet (upd H2 l (HO.lst (x_2++[V.ref p]))) B.st (V.str (Str.ofString "slots")) (some x_4)∧∃ p_1,x_4=V.ref p_1∧∃ i,x=V.int i∧IxL K p_1 i (upd H2 l (HO.lst (x_2++[V.ref p]))) fun x H1=>∃ l,x_3=V.ref l∧∃ x_5,H1 l=some (HO.lst x_5)∧x_5.length < 16777216∧Q V.non (upd H1 l (HO.lst (x_5++[x]))) else Q V.non H2:=fun H2 s2=>by
    have hb2:=hb1.same s2
    refine New.of fun l3 H3 h3 s3 e3=>⟨_,SqL.of ((s2.trans s3) _ _ e1),SqL.of e3,ite2 (fun ne=>?_) (fun _=>q.z B rows stk sl H3 (hb2.same s3) rfl rfl (Ex.refl.le (by omega)) (by omega))⟩
    have hb3:=hb2.same s3
    have l0:0 < ks.length:=List.length_pos_iff.mpr fun e=>by rw [e] at ne; cases ne
    have hj:(c:Int) / 2 % (ks.length:Int)=((c / 2 % ks.length:Nat):Int):=by rw [Int.natCast_emod,Int.natCast_ediv]; rfl
    have jl:c / 2 % ks.length < ks.length:=Nat.mod_lt _ l0
    refine ⟨_,.inl (SqL.of ((s2.trans s3) _ _ e1)),by rw [List.length_map]; omega,?_⟩
    rw [List.length_map,hj]
    obtain ⟨k,hk⟩:=ink _ (List.getElem_mem jl)
    refine ⟨_,SqL.of ((s2.trans s3) _ _ e1),_,Z3h (List.getElem?_eq_getElem jl),_,hb3.s.get.1,hb3.tyR,New.of fun t H4 h4 s4 e4=>?_⟩
    obtain ⟨us,u1,ul,hb5⟩:=(hb3.same s4).row1 (row:=.load ks[c / 2 % ks.length]) (SqT.of e4) (by omega)
    refine ⟨B.ra,rfl,us,u1,ul,?_⟩
    generalize upd H4 B.ra (.lst (us++[.ref t]))=H5 at hb5 ⊢
    have nk:k≠.hx:=hb.s.hs.2 k (List.mem_of_getElem? hk)
    obtain ⟨v1,v2,hb6⟩:=hb5.stk1 (k:=k) nk (by omega)
    refine ⟨_,hb5.s.get.2.1,hb5.tyS,_,hb5.s.get.2.2,B.la,rfl,_,rfl,_,SqL.of hb5.s.l,_,Z0P (by rw [List.getElem?_map,hk]; rfl),B.sa,rfl,_,v1,v2,q.z B _ _ _ _ hb6 rfl rfl ?_ (by rw [List.length_append]; show _+1≤_; omega)⟩
    rw [rev1]
    exact (Ex.one fun x told r h=>.load hk h).le (by omega)
  refine ite2 (fun z=>⟨_,hb1.s.get.2.1,New.of fun l2 H2 h2 s2 e2=>⟨B.sa,rfl,_,SqL.of (s2 _ _ hb1.s.s),SqL.of e2,ite2 (fun ne=>?_) (fun _=>?_)⟩⟩) (fun _=>?_)
  · have hb2:=hb1.same s2
    have hne:stk≠[]:=fun e=>by rw [e] at ne; cases ne
    obtain ⟨st',k,rfl⟩:∃ st' k,stk=st'++[k]:=⟨stk.dropLast,stk.getLast hne,(List.dropLast_concat_getLast hne).symm⟩
    have hxs:=hb.s.hs.1
    have nk:k≠.hx:=hxs k (List.mem_append_right _ List.mem_cons_self)
    have lst':=lst
    rw [List.length_append] at lst'
    have hb3:=hb2.putS (stk':=st') (fun x hx=>hxs x (List.mem_append_left _ hx)) (by omega)
    have ed:((st'++[k]).map kd).dropLast=st'.map kd:=by rw [List.map_append]; exact List.dropLast_concat
    refine ⟨_,hb2.s.get.2.1,hb2.tyS,B.sa,rfl,_,hb2.s.s,kd k,by rw [List.map_append]; simp,?_⟩
    rw [ed]
    generalize upd H2 B.sa (.lst (st'.map kd))=H3 at hb3 ⊢
    obtain ⟨j,hj,jl⟩:∃ j:Nat,(sl.length:Int) - 1 - (c:Int) / 2 % 2=j∧j < sl.length:=⟨sl.length - 1 - c / 2 % 2,by omega,by omega⟩
    rw [hj]
    have hb4:=hb3.slots (sl':=sl.set j (some k)) (fun x hx=>by
      rcases List.mem_or_eq_of_mem_set hx with z | z
      · exact hb.s.hs.2 x z
      · cases z; exact nk) (by rw [List.length_set]; exact ll)
    refine ⟨_,hb3.s.get.2.2,B.la,rfl,_,hb3.s.l,j,Z8i (by rw [List.length_map]; exact jl),?_⟩
    rw [show (sl.map okd).set j (kd k)=(sl.set j (some k)).map okd from (List.map_set (f:=okd) (a:=some k)).symm]
    generalize upd H3 B.la (.lst ((sl.set j (some k)).map okd))=H4 at hb4 ⊢
    refine ⟨_,hb4.s.get.1,hb4.tyR,New.of fun t H5 h5 s5 e5=>?_⟩
    obtain ⟨us,u1,ul,hb6⟩:=(hb4.same s5).row1 (row:=.keep j) (SqT.of e5) (by omega)
    refine ⟨B.ra,rfl,us,u1,ul,q.z B _ _ _ _ hb6 rfl (List.length_set ..) ?_ (by rw [List.length_append]; omega)⟩
    rw [rev1]
    exact (Ex.one fun x told r h=>.keep jl h).le (by omega)
  rotate_left
  · obtain ⟨H2,hH2,s2⟩:∃ H2,H1=H2∧Same H1 H2:=⟨H1,rfl,Same.refl _⟩
    rw [hH2]
    exact fin H2 s2
  · exact fin H2 s2
end
end K65
end
section
set_option format.width 300
namespace K65
open PySem L2 MM
open Mach (AV AFr Row Sg Blk MS PL Mem getP updM seen Z0K Bd)
seal L2.PE L2.PA L2.PT L2.PS L2.PSs L2.PG L2.PGs L2.PI L2.PW
open MT (Kd fk Wo VT Seg Sf)
theorem J3V {α β:Type} {R:α→β→Prop}:∀ {xs:List α} {ys:List β},Paired R xs ys→∀ {i:Nat} {y:β},ys[i]?=some y→∃ x,xs[i]?=some x∧R x y
 | _,_,.cons a b,0,y,h=>by cases h; exact ⟨_,rfl,a⟩
 | _,_,.cons a b,i+1,y,h=>J3V b h
section
variable {C_Places C_Machine D_ROW_SIGNS:Addr} {P:Program} {w:World} {K:W.Frag} {mg:Str→Option Value} {base:Heap}
theorem Z7N (T:Txt P w K mg C_Places C_Machine D_ROW_SIGNS) (h__law_want:Has P w K mg base 5 "_law_want" ["_law_world_here","_law_state","_law_kinds","_law_cell"] (Z3G K)):Has P w K mg base 6 "_law_calling" ["_law_world_here","_law_state","_law_more"] (Z1F K):=by
 refine Has.of T.f__law_calling sc__law_calling (fun _ _ _ _ _ _ us hl=>el3 us hl fun _ _ _=>rfl) (fun vs H Q E h=>?_) (fun f cdv A outer s H vs Q E hr h=>?_)
 ·obtain ⟨H0,A,B,W,ss,rows,stk,sl,c,rfl,_⟩:=h
  rfl
 obtain ⟨H0,A',B,W,ss,rows,stk,sl,c,rfl,hb,lro,lst,lsl,q⟩:=h
 refine ⟨_,(Z0d (Z0I (i:=3) sc__law_calling.nd rfl (Or.inl rfl) (Z2x Z0R (Z0k Z0G (pvF 2) Z0c) Z0c (Z0o _)))
  (Z0d (Z0I (i:=4) sc__law_calling.nd rfl (Or.inl rfl) (Z0k Z0G (Z0k Z0E (pvF 2) Z0c) (Z0q Z0l rfl T.z_len Z0O (Z0a (Z0n (Z0F hr) (pvF 0) Z0g (fun _ _=>rfl)) Z0b))))
  (Z0d (Z0I (i:=5) sc__law_calling.nd rfl (Or.inl rfl) (Z2S (Z3d (pvF 3)) (Z0u (r:=Z0U K) Z0w (Z0n (Z0F hr) (pvF 0) Z0g (fun _ _=>rfl)) (pvF 4) (fun _ _=>rfl)) (Z0k Z0G (Z0k Z0E (pvF 2) Z0c) (Z0q Z0l rfl T.z_len Z0O (Z0a (Z0n (Z0F hr) (pvF 0) Z0g (fun _ _=>rfl)) Z0b)))))
  (Z0d (Z1x (Z0u (r:=Z0U K) Z0w (Z0n (Z0F hr) (pvF 0) Z0g (fun _ _=>rfl)) (pvF 5) (fun _ _=>rfl)) (Z1Z (n:=2) rfl (Z0B (Z0v (i:=6) sc__law_calling.nd rfl (Or.inl rfl)) (Z0B (Z0v (i:=7) sc__law_calling.nd rfl (Or.inl rfl)) Z1Y))))
  (Z0d (Z0p (Z0x h__law_want hr (by first | decide | omega) rfl (Z0a (pvF 0) (Z0a (pvF 1) (Z0a (Z0k Z2D (Z0D (Z0a Z0g Z0b)) (pvF 6)) (Z0a (Z0k Z0E (pvF 2) Z0c) Z0b))))))
  (Z0d (Z0L (Z3d (pvF 3)) (Z0f (Z0p (Z1h PySem.F.plainAttrs_list PySem.F.slot_list_append PySem.F.type_list_append Z0z (Z0n (Z0F hr) (pvF 1) Z0g (fun _ _=>rfl)) (Z0a (Z0A (Z0a Z0g (Z0a (pvF 4) (Z0a (Z0k Z0N Z0c (Z0q Z0l rfl T.z_len Z0O (Z0a (pvF 6) Z0b))) Z0b)))) Z0b)))) (Z0d (Z0p (Z1h PySem.F.plainAttrs_list PySem.F.slot_list_append PySem.F.type_list_append Z0z (Z0n (Z0F hr) (pvF 1) Z0g (fun _ _=>rfl)) (Z0a (Z0A (Z0a Z0g (Z0a (Z0u (r:=Z0U K) Z0w (Z0n (Z0F hr) (pvF 0) Z0g (fun _ _=>rfl)) Z0c (fun _ _=>rfl)) (Z0a (pvF 5) (Z0a (Z0k Z0N Z0c (Z0q Z0l rfl T.z_len Z0O (Z0a (pvF 6) Z0b))) Z0b))))) Z0b)))
  (Z0f (Z1x (Z0k Z0N (Z0u (r:=Z0U K) Z0w (Z0n (Z0F hr) (pvF 0) Z0g (fun _ _=>rfl)) Z0c (fun _ _=>rfl)) Z0c) (Z3t (Z0n (Z0F hr) (pvF 0) Z0g (fun _ _=>rfl)) Z0c Z1M)))))
  (Z0f (Z0p (Z1h PySem.F.plainAttrs_list PySem.F.slot_list_append PySem.F.type_list_append Z0z (Z0n (Z0F hr) (pvF 1) Z0g (fun _ _=>rfl)) (Z0a (pvF 7) Z0b)))))))))),?_⟩
 refine seq7 fun uz6 huz6 uz5 huz5 uz4 huz4 uz3 huz3 uz2 huz2 uz1 huz1=>?_
 walk_at "rd"
 have wo:=hb.wo
 have wf:=hb.f
 obtain ⟨on,o0⟩:=wf.on
 obtain ⟨hn,h0⟩:=wf.hn
 subst huz1
 walk_at "rd"
 refine ⟨_,wo.get.2.2.1,A'.ow,rfl,_,.inl (SqL.of wo.ow),by rw [List.length_map]; omega,?_⟩
 rw [List.length_map,show (c:Int) / 3 % (W.owners.length:Int)=((c / 3 % W.owners.length:Nat):Int) by rw [Int.natCast_emod,Int.natCast_ediv]; rfl]
 have bl:c / 3 % W.owners.length < W.owners.length:=Nat.mod_lt _ o0
 have eb:=List.getElem?_eq_getElem bl
 generalize hbk:c / 3 % W.owners.length=bk at bl eb ⊢
 have key:∀ wd:Nat,wd < W.heads.length→(c % 3=0→W.owners[bk]?=some wd)→uz3 { nx:=fun x H'=>Q V.non H',rt:=Q } [some (V.ref A'.wd),some (V.ref B.st),some (V.int c),some (V.bl (decide ((c:Int) % 3=0))),some (V.int bk),some (V.int wd),none,none] H:=fun wd hwd how=>by
  obtain ⟨n0,w0⟩:=hb.w
  obtain ⟨hv,g1,hh2⟩:=w0.hd
  have hh1:=hb.k _ _ w0.ne.2.1 g1
  obtain ⟨v,hd,ev,eh,t,pl,rfl,ht0,hpl0,npl⟩:∃ v hd,hv[wd]?=some v∧W.heads[wd]?=some hd∧HdV A'.si H0 v hd:=by
   have e:=List.getElem?_eq_getElem hwd
   obtain ⟨v,h1,h2⟩:=J3V hh2 e
   exact ⟨v,_,h1,e,h2⟩
  obtain ⟨ps,tk⟩:=hd
  have ht:=hb.k _ _ (fun z=>by rw [z,w0.si] at ht0; cases ht0) ht0
  have hpl:=hb.k _ _ npl hpl0
  have hk:=wf.hk _ (List.mem_of_getElem? eh)
  subst huz3
  walk_at "rd"
  refine ⟨_,wo.get.2.1,A'.hd,rfl,_,SqL.of hh1,_,Z0P ev,t,rfl,_,SqT.of ht,rfl,⟨_,_,rfl,⟨_,_,rfl,?_⟩⟩⟩
  refine ⟨rfl,?_⟩
  subst huz4
  walk_at "rd"
  have hk1:ps.length≤2:=hk.1
  refine New.of fun l1 H1 h1 s1 e1=>⟨_,e1,_,s1 _ _ hpl,by rw [List.length_map]; show 1+_≤_; omega,New.of fun l2 H2 h2 s2 e2=>?_⟩
  have hb2:=hb.same (s1.trans s2)
  obtain ⟨us0,u0,_⟩:=hb.s.r
  refine ⟨H0,A',B,W,ss,rows,stk,sl,.h::ps,l2,_,rfl,hb2,e2,(fun z=>by rw [z,s1 _ _ u0] at h2; cases h2),by show ps.length+1≤3; omega,(fun k hm=>(List.mem_cons.mp hm).elim (fun e=>by rw [e]; exact Kd.noConfusion) (hk.2.1 k)),by omega,fun B3 rows3 stk3 H3 hb3 st3 ex3 l3=>?_⟩
  have hpl3:=hb3.k _ _ npl hpl0
  have lr3:=ex3.len
  rw [← st3]
  have fin:∀ (x:List Nat) (row:Row) (H4:Hp),x.length≤1→Bo K H0 H4 A' B3 W (ss++x) (rows3++[row]) stk3 sl→Seg W (ss++x) [row] sl ((.h::ps).reverse++stk3.reverse) sl (tk::stk3.reverse)→uz6 { nx:=fun x H'=>Q V.non H',rt:=Q } [some (V.ref A'.wd),some (V.ref B3.st),some (V.int c),some (V.bl (decide ((c:Int) % 3=0))),some (V.int bk),some (V.int wd),some (V.ref pl),some (kd tk)] H4:=fun x row H4 lx hb4 sg=>by
   subst huz6
   walk_at "rd"
   obtain ⟨v1,v2,hb5⟩:=hb4.stk1 (k:=tk) hk.2.2 (by omega)
   refine ⟨_,hb4.s.get.2.1,hb4.tyS,B3.sa,rfl,_,v1,v2,q B3 x _ _ _ _ lx hb5 st3 rfl ?_ (by rw [List.length_append]; show _+1≤_; omega)⟩
   rw [rev1]
   exact ((ex3.mono x).trans (Ex.one sg)).le (by omega)
  have el:(1:Int)+((ps.map kd).length:Int)=((1+ps.length:Nat):Int):=by rw [List.length_map]; omega
  have er:((.h::ps:List Kd)).reverse++stk3.reverse=ps.reverse++.h::stk3.reverse:=by rw [List.reverse_cons,List.append_assoc]; rfl
  subst huz5
  walk_at "rd"
  refine ite2 (fun z=>⟨_,hb3.s.get.1,hb3.tyR,_,.inl (SqL.of hpl3),?_⟩) (fun z=>⟨_,hb3.s.get.1,hb3.tyR,_,hb3.wo.get.2.2.2,A'.si,rfl,_,SqL.of hb3.si,_,ix0,_,.inl (SqL.of hpl3),?_⟩)
  ·rw [el]
   refine New.of fun t H4 h4 s4 e4=>?_
   obtain ⟨us,u1,ul,hb5⟩:=(hb3.same s4).row1 (row:=.straight bk (1+ps.length)) (SqT.of e4) (by omega)
   refine ⟨B3.ra,rfl,us,u1,ul,fin [] _ _ (Nat.zero_le _) (by rw [List.append_nil]; exact hb5) ?_⟩
   rw [er]
   exact fun x told r h=>.straight (how (by omega)) eh h
  ·rw [el]
   refine New.of fun t H4 h4 s4 e4=>?_
   obtain ⟨us,u1,ul,hb5⟩:=(hb3.same s4).row1 (row:=.call ss.length wd (1+ps.length)) (SqT.of e4) (by omega)
   refine ⟨B3.ra,rfl,us,u1,ul,?_⟩
   generalize upd H4 B3.ra (.lst (us++[.ref t]))=H5 at hb5 ⊢
   refine ⟨_,hb5.wo.get.2.2.2,A'.si,rfl,_,SqL.of hb5.si,_,ix0,_,rfl,_,hb5.wo.get.2.2.2,A'.si,rfl,_,hb5.si,0,rfl,fin [wd] _ _ (Nat.le_refl _) (hb5.site wd) ?_⟩
   rw [er]
   exact fun x told r h=>.call (by rw [List.append_assoc,List.getElem?_append_right (Nat.le_refl _),Nat.sub_self]; rfl) eh h
 subst huz2
 walk_at "rd"
 refine ite2 (fun z=>?_) (fun z=>?_)
 ·exact ⟨_,wo.get.2.2.1,A'.ow,rfl,_,SqL.of wo.ow,_,Z3h eb,key _ (wf.ow _ (List.getElem_mem bl)) (fun _=>eb)⟩
 ·refine ⟨_,wo.get.2.1,A'.hd,rfl,?_⟩
  obtain ⟨hv,hh1,hh2⟩:=wo.hd
  have lh:hv.length=W.heads.length:=hh2.length
  refine ⟨_,.inl (SqL.of hh1),by omega,?_⟩
  rw [lh,show (c:Int) / 3 % (W.heads.length:Int)=((c / 3 % W.heads.length:Nat):Int) by rw [Int.natCast_emod,Int.natCast_ediv]; rfl]
  exact key _ (Nat.mod_lt _ h0) (fun z2=>absurd (by omega) z)
end
end K65
end
section
set_option format.width 300
namespace K65
open PySem L2 MM
open Mach (AV AFr Row Sg Blk MS PL Mem getP updM seen Z0K Bd)
seal L2.PE L2.PA L2.PT L2.PS L2.PSs L2.PG L2.PGs L2.PI L2.PW
open MT (Kd fk Wo VT Seg Sf)
section
variable {C_Places C_Machine D_ROW_SIGNS:Addr} {P:Program} {w:World} {K:W.Frag} {mg:Str→Option Value} {base:Heap}
theorem J0z (T:Txt P w K mg C_Places C_Machine D_ROW_SIGNS) (h__law_made:Has P w K mg base 3 "_law_made" ["_law_world_here","_law_house","_law_cell"] (Z4h K 4)) (h__law_push:Has P w K mg base 4 "_law_push" ["_law_world_here","_law_state","_law_kind","_law_cell"] (Z5k K)):Has P w K mg base 5 "_law_inner_thing" ["_law_world_here","_law_state","_law_more"] (Z1F K):=by
  refine Has.of T.f__law_inner_thing sc__law_inner_thing (fun _ _ _ _ _ _ us hl=>el3 us hl fun _ _ _=>rfl) (fun vs H Q E h=>?_) (fun f cdv A outer s H vs Q E hr h=>?_)
  · obtain ⟨H0,A,B,W,ss,rows,stk,sl,c,rfl,_⟩:=h
    rfl
  obtain ⟨H0,A',B,W,ss,rows,stk,sl,c,rfl,hb,lro,lst,lsl,q⟩:=h
  refine ⟨_,(Z0d (Z2k rfl sc__law_inner_thing.nd (i:=3) rfl rfl (BlockOk.of (N:=["_law_house","_law_world_here"]) (nl:=[none,some 0]) (cl:=[("_law_world_here",s.heap.objs.size+1)]) rfl (by decide +kernel) (by decide +kernel) rfl (sub1 rfl) (nm:=["_law_world_here"]) rfl (by decide +kernel) rfl (fun i hi j hj=>by
            match i,hi with
            | 0,_=>cases hj
             | 1,_=>cases hj; exact ⟨_,rfl,rfl,rfl,.inl rfl⟩
            )) (Z0Q rfl T.z_range (Z0a (Z0q Z0l rfl T.z_len Z0O (Z0a (Z0n (Z0F hr) (pvF 0) Z0g (fun _ _=>rfl)) Z0b)) Z0b))
          (fun C fp s H=>(Z0v (i:=0) (show (["_law_house","_law_world_here"]:List Str).Nodup by decide +kernel) rfl (Or.inl rfl)))
          (fun C fp s H=>(Z0m Z0R (Z0u (r:=Z0U K) Z0w (Z0n (Z0F hr) (pvF 1) Z0g (fun _ _=>rfl)) (pvF 0) (fun _ _=>rfl)) Z0c (Z0o _))) (fun C fp s H=>(pvF 0)))
    (Z0d (Z0I (i:=4) sc__law_inner_thing.nd rfl (Or.inl rfl) (Z0u (r:=Z0U K) Z0w (Z0k Z2D (Z0D (Z0a Z0c Z0b)) (Z0k Z6K (pvF 3) Z0c)) (Z0k Z0G (Z0k Z0E (pvF 2) Z0c) (Z0k Z0N Z0c (Z0k Z2B Z0c (Z0q Z0l rfl T.z_len Z0O (Z0a (pvF 3) Z0b))))) (fun _ _=>rfl)))
    (Z0d (Z0p (Z1h PySem.F.plainAttrs_list PySem.F.slot_list_extend PySem.F.type_list_extend Z2A (Z0n (Z0F hr) (pvF 1) Z0g (fun _ _=>rfl)) (Z0a (Z0x h__law_made hr (by first | decide | omega) rfl (Z0a (pvF 0) (Z0a (pvF 4) (Z0a (Z0k Z0E (pvF 2) Z0c) Z0b)))) Z0b)))
    (Z0d (Z0L (PW.pt (Z3M (Z0m Z8w (pvF 4) Z0c (Z0o _)) (Z2Q (Z0m Z0R (Z0k Z0G (Z0k Z0E (pvF 2) Z0c) Z0c) Z0c (Z0o _))))) (Z0f (Z0p (Z1h PySem.F.plainAttrs_list PySem.F.slot_list_append PySem.F.type_list_append Z0z (Z0n (Z0F hr) (pvF 1) Z0g (fun _ _=>rfl)) (Z0a (Z0A (Z0a Z0g (Z0a Z0c Z0b))) Z0b)))) (Z0f (Z0L (Z0m Z8w (pvF 4) Z0c (Z0o _)) (Z0f (Z0p (Z1h PySem.F.plainAttrs_list PySem.F.slot_list_extend PySem.F.type_list_extend Z2A (Z0n (Z0F hr) (pvF 1) Z0g (fun _ _=>rfl)) (Z0a (Z0k Z2D (Z0x h__law_push hr (by first | decide | omega) rfl (Z0a (pvF 0) (Z0a (pvF 1) (Z0a Z0g (Z0a (Z0k Z0E (pvF 2) Z0c) Z0b))))) (Z0D (Z0a (Z0A (Z0a Z0g (Z0a Z0c Z0b))) Z0b))) Z0b)))) Z0C)))
    (Z0f (Z0p (Z1h PySem.F.plainAttrs_list PySem.F.slot_list_append PySem.F.type_list_append Z0z (Z0n (Z0F hr) (pvF 1) Z0g (fun _ _=>rfl)) (Z0a Z0g Z0b)))))))),?_⟩
  refine seq5 fun uz4 huz4 uz3 huz3 uz2 huz2 uz1 huz1=>?_
  walk_at "rd"
  have wo:=hb.wo
  have wf:=hb.f
  have fn:=wf.fn
  refine ⟨_,wo.get.1,A'.fl,rfl,_,.inl (SqL.of wo.fl),by omega,by rw [List.length_map]; omega,fun D hD=>?_⟩
  rw [Int.toNat_natCast,List.length_map]
  refine Z2V none [some (.ref A'.wd)] (fun i=>decide (W.fields[i]?=some 4)) rfl hD (by rw [sizeLine_eq]; omega) (fun i hi H1 K' s1 kk=>?_) (fun H1 s1 e1=>?_)
  · have wo1:=wo.same s1
    have e:=List.getElem?_eq_getElem hi
    walk_at "rd"
    refine ⟨_,wo1.get.1,A'.fl,rfl,_,SqL.of wo1.fl,_,Z3h e,rfl,?_⟩
    have:=kk _ (Same.refl _)
    rw [e] at this
    rw [show decide (V.int (W.fields[i]:Int)=V.int 4)=decide (some W.fields[i]=some 4) from decide_eq_decide.mpr ⟨fun z=>by have:=V.int.inj z; congr 1; omega,fun z=>by rw [Option.some.inj z]; rfl⟩]
    exact this
  generalize hks:(List.range W.fields.length).filter (fun i=>decide (W.fields[i]?=some 4))=ks at e1
  have ink:∀ i∈ks,W.fields[i]?=some 4:=fun i hi=>by rw [← hks] at hi; exact of_decide_eq_true (List.mem_filter.mp hi).2
  have lks:ks.length≤4:=by rw [← hks]; exact Nat.le_trans (List.length_filter_le _ _) (by rw [List.length_range]; exact fn)
  have hb1:=hb.same s1
  subst huz1
  walk_at "rd"
  refine New.of fun l2 H2 h2 s2 e2=>⟨_,s2 _ _ e1,by rw [List.length_map]; omega,fun l3 h3=>?_⟩
  have efl:∀ x:List V,x=ks.map (fun (m:Nat)=>V.int m)→[x,x,x,x,x,x,x,x,x].flatten=([ks,ks,ks,ks,ks,ks,ks,ks,ks].flatten).map (fun (m:Nat)=>V.int m):=fun x e=>by rw [e,List.map_flatten]; rfl
  rw [efl _ rfl]
  have s3:=Z0i h3 (.lst (([ks,ks,ks,ks,ks,ks,ks,ks,ks].flatten).map (fun (m:Nat)=>V.int m)))
  have e3:upd H2 l3 (.lst (([ks,ks,ks,ks,ks,ks,ks,ks,ks].flatten).map (fun (m:Nat)=>V.int m))) l3=some (.lst (([ks,ks,ks,ks,ks,ks,ks,ks,ks].flatten).map (fun (m:Nat)=>V.int m))):=Z0e
  generalize upd H2 l3 (.lst (([ks,ks,ks,ks,ks,ks,ks,ks,ks].flatten).map (fun (m:Nat)=>V.int m)))=H3 at s3 e3 ⊢
  have lfl:([ks,ks,ks,ks,ks,ks,ks,ks,ks].flatten).length=9 * ks.length:=by simp only [List.flatten_cons,List.flatten_nil,List.length_append,List.length_nil]; omega
  have mfl:∀ x∈[ks,ks,ks,ks,ks,ks,ks,ks,ks].flatten,x∈ks:=fun x hx=>by
    obtain ⟨l,hl,hx⟩:=(List.mem_flatten.mp hx)
    have:l=ks:=by simpa using hl
    exact this▸hx
  generalize [ks,ks,ks,ks,ks,ks,ks,ks,ks].flatten=fl at e3 lfl mfl
  refine ⟨_,s3 _ _ e2,_,e3,by rw [List.length_map]; show 1+_≤_; omega,New.of fun l4 H4 h4 s4 e4=>⟨_,.inl (SqL.of ((s2.trans (s3.trans s4)) _ _ e1)),by omega,?_⟩⟩
  rw [List.length_map,show (c:Int) / 5 % (1+9 * (ks.length:Int))=((c / 5 % (1+9 * ks.length):Nat):Int) by rw [Int.natCast_emod,Int.natCast_ediv]; push_cast; rfl]
  have jl:c / 5 % (1+9 * ks.length) < (0::fl).length:=by rw [List.length_cons,lfl]; have:=Nat.mod_lt (c / 5) (show 0 < 1+9 * ks.length by omega); omega
  have ej:=List.getElem?_eq_getElem jl
  have e4:H4 l4=some (.lst ((0::fl).map fun (m:Nat)=>V.int m)):=e4
  refine ⟨_,SqL.of e4,_,Z3h ej,?_⟩
  have hin:=List.mem_cons.mp (List.getElem_mem jl)
  generalize (0::fl)[c / 5 % (1+9 * ks.length)]=ho at hin ⊢
  have hb4:=hb1.same (s2.trans (s3.trans s4))
  obtain ⟨m',f0,f3⟩:=wf.f0
  obtain ⟨m,em,hm⟩:∃ m,W.fields[ho]?=some m∧(ho=0∧m≤3∨0 < ho∧m=4):=by
    rcases hin with z | z
    · exact ⟨m',by rw [z]; exact f0,.inl ⟨z,f3⟩⟩
    · have e:=ink ho (mfl ho z)
      refine ⟨4,e,.inr ⟨Nat.pos_of_ne_zero fun z=>?_,rfl⟩⟩
      rw [z,f0] at e
      have:=Option.some.inj e
      omega
  subst huz2
  walk_at "rd"
  refine ⟨_,hb4.s.get.1,hb4.tyR,A',W,ss.length,ho,m,_,rfl,hb4.wo,wf,em,(wf.fl m (List.mem_of_getElem? em)).2,fun l5 m5 H5 nr sg5 le5=>?_⟩
  obtain ⟨s5,h5,us5,e5,p5⟩:=nr
  have b5:m5.length≤9:=Nat.le_trans le5 (by unfold bM; split <;> omega)
  obtain ⟨us,u1,ul,hb6⟩:=(hb4.same s5).rows1 p5 (by omega)
  refine ⟨B.ra,rfl,l5,rfl,us,u1,_,e5,ul,?_⟩
  generalize upd H5 B.ra (.lst (us++us5))=H6 at hb6 ⊢
  have ex6:Ex W ss 9 rows sl stk.reverse (rows++m5) sl (hkd m::stk.reverse):=⟨m5,rfl,b5,sg5 ss sl _⟩
  have fin:∀ (rows':List Row) (H7:Hp),Bo K H0 H7 A' B W ss rows' stk sl→Ex W ss 50 rows sl stk.reverse rows' sl (.h::stk.reverse)→uz4 { nx:=fun x H'=>Q V.non H',rt:=Q } [some (V.ref A'.wd),some (V.ref B.st),some (V.int c),some (V.ref D),some (V.int ho)] H7:=fun rows' H7 hb7 ex7=>by
    subst huz4
    walk_at "rd"
    obtain ⟨v1,v2,hb8⟩:=hb7.stk1 (k:=.h) Kd.noConfusion (by omega)
    refine ⟨_,hb7.s.get.2.1,hb7.tyS,B.sa,rfl,_,v1,v2,q.z B _ _ _ _ hb8 rfl rfl ?_ (by rw [List.length_append]; show _+1≤_; omega)⟩
    rw [rev1]
    exact ex7.le (by omega)
  have small:¬ (0 < (ho:Int))→hkd m=.h:=fun z=>by
    rcases hm with ⟨_,h⟩ | ⟨h,_⟩
    · unfold hkd; rw [if_neg (by omega)]
    · exact absurd (by omega) z
  have big:0 < (ho:Int)→hkd m=.hx:=fun z=>by
    rcases hm with ⟨h,_⟩ | ⟨_,h⟩
    · exact absurd z (by omega)
    · unfold hkd; rw [if_pos h]
  subst huz3
  walk_at "rd"
  refine ite2 (fun z=>ite2 (fun _=>⟨_,hb6.s.get.1,hb6.tyR,New.of fun t H7 h7 s7 e7=>?_⟩) (fun _=>ite2 (fun _=>?_) (fun z2=>absurd z z2))) (fun z=>ite2 (fun z2=>absurd z2 z) (fun _=>fin _ _ hb6 ?_))
  · rw [big z] at ex6
    obtain ⟨us,u1,ul,hb8⟩:=(hb6.same s7).row1 (row:=.get 3) (SqT.of e7) (by rw [List.length_append]; omega)
    exact ⟨B.ra,rfl,us,u1,ul,fin _ _ hb8 ((ex6.trans (Ex.one fun x told r h=>.get3 h)).le (by omega))⟩
  · rw [big z] at ex6
    rw [show (c:Int) / 50=((c / 50:Nat):Int) from rfl]
    refine ⟨_,hb6.s.get.1,hb6.tyR,A',B,W,ss.length,c / 50,_,stk,sl,.h,rfl,hb6.wo,wf,hb6.s,Kd.noConfusion,hb6.ll.1,fun l7 m7 H7 nr7 sg7 le7=>?_⟩
    obtain ⟨s7,h7,us7,e7,p7⟩:=nr7
    have lu7:us7.length=m7.length:=p7.length
    refine New.of fun t8 H8 h8 s8 e8=>New.of fun l9 H9 h9 s9 e9=>⟨l7,rfl,_,(s8.trans s9) _ _ e7,_,e9,by show _+1≤_; omega,New.of fun la Ha ha sa ea=>?_⟩
    have S8:=s8.trans (s9.trans sa)
    have pr:Paired (RowV K Ha) (us7++[V.ref t8]) (m7++[.put 3]):=Paired.appendP (Z1O p7 (Same.t S8)) (.cons ⟨t8,rfl,SqT.of ((s9.trans sa) _ _ e8)⟩ .nil)
    obtain ⟨us,u1,ul,hb8⟩:=(hb6.same (s7.trans S8)).rows1 pr (by simp only [List.length_append,List.length_cons,List.length_nil]; omega)
    refine ⟨B.ra,rfl,us,u1,_,ea,ul,fin _ _ hb8 ((ex6.trans ⟨m7++[.put 3],rfl,(by simp only [List.length_append,List.length_cons,List.length_nil]; omega:_≤10),(sg7 ss _).app (b:=[.put 3]) fun x told r h=>.put3 h⟩).le (by omega))⟩
  · rw [small z] at ex6
    exact ex6.le (by omega)
end
end K65
end
section
set_option format.width 300
namespace K65
open PySem L2 MM
open Mach (AV AFr Row Sg Blk MS PL Mem getP updM seen Z0K Bd)
seal L2.PE L2.PA L2.PT L2.PS L2.PSs L2.PG L2.PGs L2.PI L2.PW
open MT (Kd fk Wo VT Seg Sf)
theorem J3S {pl:Nat} (h:pl < 3):fk pl≠Kd.hx∧∃ x,atI (Str.ofString "ntn").cps.toList (pl:Int)=some x∧V.str { cps:=#[x] }=kd (fk pl):=by
 rcases (show pl=0∨pl=1∨pl=2 by omega) with e | e | e
 ·subst e; exact ⟨Kd.noConfusion,110,by decide +kernel,congrArg V.str (by decide +kernel)⟩
 ·subst e; exact ⟨Kd.noConfusion,116,by decide +kernel,congrArg V.str (by decide +kernel)⟩
 ·subst e; exact ⟨Kd.noConfusion,110,by decide +kernel,congrArg V.str (by decide +kernel)⟩
section
variable {C_Places C_Machine D_ROW_SIGNS:Addr} {P:Program} {w:World} {K:W.Frag} {mg:Str→Option Value} {base:Heap}
theorem J0N (T:Txt P w K mg C_Places C_Machine D_ROW_SIGNS) (h__law_want:Has P w K mg base 5 "_law_want" ["_law_world_here","_law_state","_law_kinds","_law_cell"] (Z3G K)) (h__law_inner_thing:Has P w K mg base 5 "_law_inner_thing" ["_law_world_here","_law_state","_law_more"] (Z1F K)):Has P w K mg base 6 "_law_about_thing" ["_law_world_here","_law_state","_law_more"] (Z1F K):=by
 refine Has.of T.f__law_about_thing sc__law_about_thing (fun _ _ _ _ _ _ us hl=>el3 us hl fun _ _ _=>rfl) (fun vs H Q E h=>?_) (fun f cdv A outer s H vs Q E hr h=>?_)
 ·obtain ⟨H0,A,B,W,ss,rows,stk,sl,c,rfl,_⟩:=h
  rfl
 obtain ⟨H0,A',B,W,ss,rows,stk,sl,c,rfl,hb,lro,lst,lsl,q⟩:=h
 refine ⟨_,(Z0d (Z0I (i:=3) sc__law_about_thing.nd rfl (Or.inl rfl) (Z0k Z0G (Z0k Z0E (pvF 2) Z0c) (Z0q (r:=J2t K) (Z8B rfl) rfl T.z_min J1H (Z0a (Z0n (Z0F hr) (pvF 0) Z0g (fun _ _=>rfl)) Z0b))))
  (Z0f (Z0L (Z0m Z0R (Z0k Z0G (pvF 2) Z0c) Z0c (Z0o _)) (Z0f (Z0p (Z0x h__law_inner_thing hr (by first | decide | omega) rfl (Z0a (pvF 0) (Z0a (pvF 1) (Z0a (Z0k Z0E (pvF 2) Z0c) Z0b)))))) (Z0f (Z0L (Z0m Z4B (Z0k Z0G (pvF 2) Z0c) Z0c (Z0o _)) (Z0d (Z0p (Z0x h__law_want hr (by first | decide | omega) rfl (Z0a (pvF 0) (Z0a (pvF 1) (Z0a (Z0D (Z0a Z0g Z0b)) (Z0a (Z0k Z0E (pvF 2) Z0c) Z0b))))))
  (Z0d (Z0p (Z1h PySem.F.plainAttrs_list PySem.F.slot_list_append PySem.F.type_list_append Z0z (Z0n (Z0F hr) (pvF 1) Z0g (fun _ _=>rfl)) (Z0a (Z0A (Z0a Z0g (Z0a (pvF 3) Z0b))) Z0b)))
  (Z0f (Z0p (Z1h PySem.F.plainAttrs_list PySem.F.slot_list_append PySem.F.type_list_append Z0z (Z0n (Z0F hr) (pvF 1) Z0g (fun _ _=>rfl)) (Z0a (Z0u Z3L Z0g (pvF 3) (fun _ _=>rfl)) Z0b)))))) (Z0f (Z0L (Z0m Z0R (Z0k Z0G (pvF 2) Z0c) Z0c (Z0o _)) (Z0d (Z0p (Z0x h__law_want hr (by first | decide | omega) rfl (Z0a (pvF 0) (Z0a (pvF 1) (Z0a (Z0D (Z0a Z0g (Z0a (Z0u Z3L Z0g (pvF 3) (fun _ _=>rfl)) Z0b))) (Z0a (Z0k Z0E (pvF 2) Z0c) Z0b))))))
  (Z0d (Z0p (Z1h PySem.F.plainAttrs_list PySem.F.slot_list_append PySem.F.type_list_append Z0z (Z0n (Z0F hr) (pvF 1) Z0g (fun _ _=>rfl)) (Z0a (Z0A (Z0a Z0g (Z0a (pvF 3) Z0b))) Z0b)))
  (Z0f (Z0p (Z1h PySem.F.plainAttrs_list PySem.F.slot_list_append PySem.F.type_list_append Z0z (Z0n (Z0F hr) (pvF 1) Z0g (fun _ _=>rfl)) (Z0a (Z0u Z3L Z0g (pvF 3) (fun _ _=>rfl)) Z0b)))))) (Z0f (Z0L (Z0m (r:=rNeN K) (Z6X hr.units) (Z0n (Z0F hr) (pvF 1) Z0g (fun _ _=>rfl)) (Z0D Z0b) (Z0o _)) (Z0d (Z0p (Z1h PySem.F.plainAttrs_list PySem.F.slot_list_append PySem.F.type_list_append Z0z (Z0n (Z0F hr) (pvF 1) Z0g (fun _ _=>rfl)) (Z0a (Z0A (Z0a Z0g Z0b)) Z0b)))
  (Z0f (Z0p (Z9H PySem.F.plainAttrs_list PySem.F.slot_list_pop PySem.F.type_list_pop Z8Q (Z0n (Z0F hr) (pvF 1) Z0g (fun _ _=>rfl)))))) Z0C))))))))),?_⟩
 refine seq2 fun uz1 huz1=>?_
 walk_at "rd"
 have wo:=hb.wo
 have wf:=hb.f
 obtain ⟨m',f0,f3⟩:=wf.f0
 refine ⟨_,wo.get.1,A'.fl,rfl,W.fields.map fun (m:Nat)=>(m:Int),by rw [List.map_map]; exact SqL.of wo.fl,(fun z=>by have:=List.map_eq_nil_iff.mp z; rw [this] at f0; cases f0),fun mi hmi=>?_⟩
 obtain ⟨mn,hmn,rfl⟩:=List.mem_map.mp hmi.1
 obtain ⟨mn2,mn4⟩:=wf.fl mn hmn
 have mle:∀ m∈W.fields,mn≤m:=fun m hm=>by have:=hmi.2 _ (List.mem_map.mpr ⟨m,hm,rfl⟩); omega
 have mn3:mn≤3:=Nat.le_trans (mle m' (List.mem_of_getElem? f0)) f3
 refine ⟨by omega,?_⟩
 obtain ⟨pl,epl,plm⟩:∃ pl:Nat,(c:Int) / 5 % (mn:Int)=pl∧pl < mn:=⟨c / 5 % mn,by rw [Int.natCast_emod,Int.natCast_ediv]; rfl,Nat.mod_lt _ (by omega)⟩
 rw [epl]
 have pla:∀ m∈W.fields,pl < m:=fun m hm=>Nat.lt_of_lt_of_le plm (mle m hm)
 obtain ⟨nk,x,ax,ex⟩:=J3S (show pl < 3 by omega)
 obtain ⟨us0,u0,_⟩:=hb.s.r
 have len3:(Str.ofString "ntn").length≤16777216:=by decide +kernel
 subst huz1
 walk_at "rd"
 refine ite2 (fun _=>?_) (fun _=>ite2 (fun _=>?_) (fun _=>ite2 (fun _=>?_) (fun _=>?_)))
 ·rw [show (c:Int) / 2=((c / 2:Nat):Int) from rfl]
  exact ⟨H0,A',B,W,ss,rows,stk,sl,c / 2,rfl,hb,lro,lst,lsl,q⟩
 ·refine New.of fun l1 H1 h1 s1 e1=>?_
  refine ⟨H0,A',B,W,ss,rows,stk,sl,[.h],l1,_,rfl,hb.same s1,e1,(fun z=>by rw [z,u0] at h1; cases h1),by show 1≤3; omega,(fun k hk=>by cases List.mem_singleton.mp hk; exact Kd.noConfusion),by omega,fun B2 rows2 stk2 H2 hb2 st2 ex2 l2=>?_⟩
  have lr2:=ex2.len
  rw [← st2]
  refine ⟨_,hb2.s.get.1,hb2.tyR,New.of fun t H3 h3 s3 e3=>?_⟩
  obtain ⟨us,u1,ul,hb4⟩:=(hb2.same s3).row1 (row:=.get pl) (SqT.of e3) (by omega)
  refine ⟨B2.ra,rfl,us,u1,ul,?_⟩
  generalize upd H3 B2.ra (.lst (us++[.ref t]))=H4 at hb4 ⊢
  obtain ⟨v1,v2,hb5⟩:=hb4.stk1 (k:=fk pl) nk (by omega)
  refine ⟨_,hb4.s.get.2.1,hb4.tyS,len3,x,ax,B2.sa,rfl,_,v1,v2,?_⟩
  rw [ex]
  refine q.z B2 _ _ _ _ hb5 st2 rfl ?_ (by rw [List.length_append]; show _+1≤_; omega)
  rw [rev1]
  exact (ex2.trans (Ex.one fun x told r h=>.get pla h)).le (by omega)
 ·refine ⟨len3,x,ax,?_⟩
  rw [ex]
  refine New.of fun l1 H1 h1 s1 e1=>?_
  refine ⟨H0,A',B,W,ss,rows,stk,sl,[.h,fk pl],l1,_,rfl,hb.same s1,e1,(fun z=>by rw [z,u0] at h1; cases h1),by show 2≤3; omega,(fun k hk=>(List.mem_cons.mp hk).elim (fun e=>by rw [e]; exact Kd.noConfusion) (fun e=>by cases List.mem_singleton.mp e; exact nk)),by omega,fun B2 rows2 stk2 H2 hb2 st2 ex2 l2=>?_⟩
  have lr2:=ex2.len
  rw [← st2]
  refine ⟨_,hb2.s.get.1,hb2.tyR,New.of fun t H3 h3 s3 e3=>?_⟩
  obtain ⟨us,u1,ul,hb4⟩:=(hb2.same s3).row1 (row:=.put pl) (SqT.of e3) (by omega)
  refine ⟨B2.ra,rfl,us,u1,ul,?_⟩
  generalize upd H3 B2.ra (.lst (us++[.ref t]))=H4 at hb4 ⊢
  obtain ⟨v1,v2,hb5⟩:=hb4.stk1 (k:=fk pl) nk (by omega)
  refine ⟨_,hb4.s.get.2.1,hb4.tyS,len3,x,ax,B2.sa,rfl,_,v1,v2,?_⟩
  rw [ex]
  refine q.z B2 _ _ _ _ hb5 st2 rfl ?_ (by rw [List.length_append]; show _+1≤_; omega)
  rw [rev1]
  exact (ex2.trans (Ex.one fun x told r h=>.put pla h)).le (by omega)
 ·refine ⟨_,hb.s.get.2.1,New.of fun l2 H2 h2 s2 e2=>⟨B.sa,rfl,_,SqL.of (s2 _ _ hb.s.s),SqL.of e2,ite2 (fun ne=>?_) (fun _=>q.z B rows stk sl H2 (hb.same s2) rfl rfl (Ex.refl.le (by omega)) (by omega))⟩⟩
  have hb2:=hb.same s2
  have hne:stk≠[]:=fun e=>by rw [e] at ne; cases ne
  obtain ⟨st',k,rfl⟩:∃ st' k,stk=st'++[k]:=⟨stk.dropLast,stk.getLast hne,(List.dropLast_concat_getLast hne).symm⟩
  have lst':=lst
  rw [List.length_append] at lst'
  refine ⟨_,hb2.s.get.1,hb2.tyR,New.of fun t H3 h3 s3 e3=>?_⟩
  obtain ⟨us,u1,ul,hb4⟩:=(hb2.same s3).row1 (row:=.drop) (SqT.of e3) (by omega)
  refine ⟨B.ra,rfl,us,u1,ul,?_⟩
  generalize upd H3 B.ra (.lst (us++[.ref t]))=H4 at hb4 ⊢
  have hb5:=hb4.putS (stk':=st') (fun x hx=>hb.s.hs.1 x (List.mem_append_left _ hx)) (by omega)
  refine ⟨_,hb4.s.get.2.1,hb4.tyS,B.sa,rfl,_,hb4.s.s,kd k,by rw [List.map_append]; simp,?_⟩
  rw [show ((st'++[k]).map kd).dropLast=st'.map kd by rw [List.map_append]; exact List.dropLast_concat]
  refine q.z B _ _ _ _ hb5 rfl rfl ?_ (by rw [List.length_append]; omega)
  rw [rev1]
  exact (Ex.one fun x told r h=>.drop h).le (by omega)
end
end K65
end
section
set_option format.width 300
namespace K65
open PySem L2 MM
open Mach (AV AFr Row Sg Blk MS PL Mem getP updM seen Z0K Bd)
seal L2.PE L2.PA L2.PT L2.PS L2.PSs L2.PG L2.PGs L2.PI L2.PW
open MT (Kd fk Wo VT Seg Sf)
theorem J4Q {j:Int} (h:0≤j∧j < 6):∃ g k x,k≠Kd.hx∧atI [V.str (Str.ofString "add"),V.str (Str.ofString "sub"),V.str (Str.ofString "mul"),V.str (Str.ofString "div"),V.str (Str.ofString "less"),V.str (Str.ofString "same")] j=some (.str (sgN g))∧atI (Str.ofString "nnnntt").cps.toList j=some x∧V.str { cps:=#[x] }=kd k∧∀ W ss sl st,Seg W ss [.two g] sl (.n::.n::st) sl (k::st):=by
 rcases (show j=0∨j=1∨j=2∨j=3∨j=4∨j=5 by omega) with e | e | e | e | e | e
 ·subst e; exact ⟨.add,.n,110,Kd.noConfusion,rfl,by decide +kernel,congrArg V.str (by decide +kernel),fun W ss sl st x told r h=>.num Sg.noConfusion Sg.noConfusion h⟩
 ·subst e; exact ⟨.sub,.n,110,Kd.noConfusion,rfl,by decide +kernel,congrArg V.str (by decide +kernel),fun W ss sl st x told r h=>.num Sg.noConfusion Sg.noConfusion h⟩
 ·subst e; exact ⟨.mul,.n,110,Kd.noConfusion,rfl,by decide +kernel,congrArg V.str (by decide +kernel),fun W ss sl st x told r h=>.num Sg.noConfusion Sg.noConfusion h⟩
 ·subst e; exact ⟨.div,.n,110,Kd.noConfusion,rfl,by decide +kernel,congrArg V.str (by decide +kernel),fun W ss sl st x told r h=>.num Sg.noConfusion Sg.noConfusion h⟩
 ·subst e; exact ⟨.less,.t,116,Kd.noConfusion,rfl,by decide +kernel,congrArg V.str (by decide +kernel),fun W ss sl st x told r h=>.less h⟩
 ·subst e; exact ⟨.same,.t,116,Kd.noConfusion,rfl,by decide +kernel,congrArg V.str (by decide +kernel),fun W ss sl st x told r h=>.same Kd.noConfusion h⟩
theorem J6b {j:Int} (h:0≤j∧j < 2):∃ k x,k≠Kd.hx∧atI (Str.ofString "ht").cps.toList j=some x∧V.str { cps:=#[x] }=kd k:=by
 rcases (show j=0∨j=1 by omega) with e | e
 ·subst e; exact ⟨.h,104,Kd.noConfusion,by decide +kernel,congrArg V.str (by decide +kernel)⟩
 ·subst e; exact ⟨.t,116,Kd.noConfusion,by decide +kernel,congrArg V.str (by decide +kernel)⟩
section
variable {C_Places C_Machine D_ROW_SIGNS:Addr} {P:Program} {w:World} {K:W.Frag} {mg:Str→Option Value} {base:Heap}
theorem J0p (T:Txt P w K mg C_Places C_Machine D_ROW_SIGNS) (h__law_want:Has P w K mg base 5 "_law_want" ["_law_world_here","_law_state","_law_kinds","_law_cell"] (Z3G K)) (h__law_branch:Has P w K mg base 6 "_law_branch" ["_law_world_here","_law_state","_law_more"] (Z1F K)) (h__law_slotted:Has P w K mg base 1 "_law_slotted" ["_law_state","_law_more"] (Z4H K)) (h__law_calling:Has P w K mg base 6 "_law_calling" ["_law_world_here","_law_state","_law_more"] (Z1F K)) (h__law_about_thing:Has P w K mg base 6 "_law_about_thing" ["_law_world_here","_law_state","_law_more"] (Z1F K)):Has P w K mg base 7 "_law_piece" ["_law_world_here","_law_state","_law_cell"] (Z1F K):=by
 refine Has.of T.f__law_piece sc__law_piece (fun _ _ _ _ _ _ us hl=>el3 us hl fun _ _ _=>rfl) (fun vs H Q E h=>?_) (fun f cdv A outer s H vs Q E hr h=>?_)
 ·obtain ⟨H0,A,B,W,ss,rows,stk,sl,c,rfl,_⟩:=h
  rfl
 obtain ⟨H0,A',B,W,ss,rows,stk,sl,c,rfl,hb,lro,lst,lsl,q⟩:=h
 refine ⟨_,(Z0d (Z0I (i:=3) sc__law_piece.nd rfl (Or.inl rfl) (Z0k Z0G (pvF 2) Z0c))
  (Z0d (Z0I (i:=4) sc__law_piece.nd rfl (Or.inl rfl) (Z0k Z0E (pvF 2) Z0c))
  (Z0f (Z0L (Z0m Z4B (pvF 3) Z0c (Z0o _)) (Z0d (Z0p (Z0x h__law_want hr (by first | decide | omega) rfl (Z0a (pvF 0) (Z0a (pvF 1) (Z0a (Z0D (Z0a Z0g (Z0a Z0g Z0b))) (Z0a (Z0k Z0E (pvF 4) Z0c) Z0b))))))
  (Z0d (Z0p (Z1h PySem.F.plainAttrs_list PySem.F.slot_list_append PySem.F.type_list_append Z0z (Z0n (Z0F hr) (pvF 1) Z0g (fun _ _=>rfl)) (Z0a (Z0A (Z0a (Z0u (r:=Z0U K) Z0w (Z0D (Z0a Z0g (Z0a Z0g (Z0a Z0g (Z0a Z0g (Z0a Z0g (Z0a Z0g Z0b))))))) (Z0k Z0G (pvF 4) Z0c) (fun _ _=>rfl)) Z0b)) Z0b)))
  (Z0f (Z0p (Z1h PySem.F.plainAttrs_list PySem.F.slot_list_append PySem.F.type_list_append Z0z (Z0n (Z0F hr) (pvF 1) Z0g (fun _ _=>rfl)) (Z0a (Z0u Z3L Z0g (Z0k Z0G (pvF 4) Z0c) (fun _ _=>rfl)) Z0b)))))) (Z0f (Z0L (Z0m Z0R (pvF 3) Z0c (Z0o _)) (Z0d (Z0p (Z0x h__law_want hr (by first | decide | omega) rfl (Z0a (pvF 0) (Z0a (pvF 1) (Z0a (Z0k Z6K (Z0D (Z0a (Z0u Z3L Z0g (Z0k Z0G (pvF 4) Z0c) (fun _ _=>rfl)) Z0b)) Z0c) (Z0a (Z0k Z0E (pvF 4) Z0c) Z0b))))))
  (Z0d (Z0p (Z1h PySem.F.plainAttrs_list PySem.F.slot_list_append PySem.F.type_list_append Z0z (Z0n (Z0F hr) (pvF 1) Z0g (fun _ _=>rfl)) (Z0a (Z0A (Z0a Z0g Z0b)) Z0b)))
  (Z0f (Z0p (Z1h PySem.F.plainAttrs_list PySem.F.slot_list_append PySem.F.type_list_append Z0z (Z0n (Z0F hr) (pvF 1) Z0g (fun _ _=>rfl)) (Z0a Z0g Z0b)))))) (Z0f (Z0L (Z0m Z0R (pvF 3) Z0c (Z0o _)) (Z0f (Z0p (Z0x h__law_branch hr (by first | decide | omega) rfl (Z0a (pvF 0) (Z0a (pvF 1) (Z0a (pvF 4) Z0b)))))) (Z0f (Z0L (Z0m Z0R (pvF 3) Z0c (Z0o _)) (Z0f (Z0p (Z0x h__law_slotted hr (by first | decide | omega) rfl (Z0a (pvF 1) (Z0a (pvF 4) Z0b))))) (Z0f (Z0L (Z0m Z4B (pvF 3) Z0c (Z0o _)) (Z0f (Z0p (Z0x h__law_calling hr (by first | decide | omega) rfl (Z0a (pvF 0) (Z0a (pvF 1) (Z0a (pvF 4) Z0b)))))) (Z0f (Z0p (Z0x h__law_about_thing hr (by first | decide | omega) rfl (Z0a (pvF 0) (Z0a (pvF 1) (Z0a (pvF 4) Z0b)))))))))))))))))),?_⟩
 refine seq3 fun uz2 huz2 uz1 huz1=>?_
 walk_at "rd"
 subst huz1
 walk_at "rd"
 rw [show (c:Int) / 9=((c / 9:Nat):Int) from rfl]
 generalize c / 9=d
 subst huz2
 walk_at "rd"
 obtain ⟨us0,u0,_⟩:=hb.s.r
 have go:∀ {v:Int},Z1F K [.ref A'.wd,.ref B.st,.int d] H (fun _ H1=>Q V.non H1) E0:=fun {_}=>⟨H0,A',B,W,ss,rows,stk,sl,d,rfl,hb,lro,lst,lsl,q⟩
 refine ite2 (fun _=>?_) (fun _=>ite2 (fun _=>?_) (fun _=>ite2 (fun _=>?_) (fun _=>ite2 (fun _=>?_) (fun _=>ite2 (fun _=>?_) (fun _=>?_)))))
 ·obtain ⟨g,k,x,nk,ag,ax,ex,sg⟩:=J4Q (j:=(d:Int) % 6) (by omega)
  refine New.of fun l1 H1 h1 s1 e1=>?_
  refine ⟨H0,A',B,W,ss,rows,stk,sl,[.n,.n],l1,_,rfl,hb.same s1,e1,(fun z=>by rw [z,u0] at h1; cases h1),by show 2≤3; omega,(fun k hk=>(List.mem_cons.mp hk).elim (fun e=>by rw [e]; exact Kd.noConfusion) (fun e=>by cases List.mem_singleton.mp e; exact Kd.noConfusion)),by omega,fun B2 rows2 stk2 H2 hb2 st2 ex2 l2=>?_⟩
  have lr2:=ex2.len
  rw [← st2]
  refine ⟨_,hb2.s.get.1,hb2.tyR,New.of fun l3 H3 h3 s3 e3=>⟨_,SqL.of e3,_,ag,New.of fun t H4 h4 s4 e4=>?_⟩⟩
  obtain ⟨us,u1,ul,hb4⟩:=(hb2.same (s3.trans s4)).row1 (row:=.two g) (SqT.of e4) (by omega)
  refine ⟨B2.ra,rfl,us,u1,ul,?_⟩
  generalize upd H4 B2.ra (.lst (us++[.ref t]))=H5 at hb4 ⊢
  obtain ⟨v1,v2,hb5⟩:=hb4.stk1 (k:=k) nk (by omega)
  refine ⟨_,hb4.s.get.2.1,hb4.tyS,by decide +kernel,x,ax,B2.sa,rfl,_,v1,v2,?_⟩
  rw [ex]
  refine q.z B2 _ _ _ _ hb5 st2 rfl ?_ (by rw [List.length_append]; show _+1≤_; omega)
  rw [rev1]
  exact (ex2.trans (Ex.one (sg W ss sl _))).le (by omega)
 ·obtain ⟨k,x,nk,ax,ex⟩:=J6b (j:=(d:Int) % 2) (by omega)
  refine ⟨by decide +kernel,x,ax,?_⟩
  rw [ex]
  refine New.of fun l1 H1 h1 s1 e1=>⟨_,e1,by show 1 * 2≤_; omega,fun l2 h2=>?_⟩
  have s2:=Z0i h2 (.lst [[kd k],[kd k]].flatten)
  have e2:upd H1 l2 (.lst [[kd k],[kd k]].flatten) l2=some (.lst ([k,k].map kd)):=Z0e
  generalize upd H1 l2 (.lst [[kd k],[kd k]].flatten)=H2 at s2 e2 ⊢
  refine ⟨H0,A',B,W,ss,rows,stk,sl,[k,k],l2,_,rfl,hb.same (s1.trans s2),e2,(fun z=>by rw [z,s1 _ _ u0] at h2; cases h2),by show 2≤3; omega,(fun l hl=>(List.mem_cons.mp hl).elim (fun e=>by rw [e]; exact nk) (fun e=>by cases List.mem_singleton.mp e; exact nk)),by omega,fun B2 rows2 stk2 H3 hb2 st2 ex2 l3=>?_⟩
  have lr2:=ex2.len
  rw [← st2]
  refine ⟨_,hb2.s.get.1,hb2.tyR,New.of fun t H4 h4 s4 e4=>?_⟩
  obtain ⟨us,u1,ul,hb4⟩:=(hb2.same s4).row1 (row:=.two .same) (SqT.of e4) (by omega)
  refine ⟨B2.ra,rfl,us,u1,ul,?_⟩
  generalize upd H4 B2.ra (.lst (us++[.ref t]))=H5 at hb4 ⊢
  obtain ⟨v1,v2,hb5⟩:=hb4.stk1 (k:=.t) Kd.noConfusion (by omega)
  refine ⟨_,hb4.s.get.2.1,hb4.tyS,B2.sa,rfl,_,v1,v2,q.z B2 _ _ _ _ hb5 st2 rfl ?_ (by rw [List.length_append]; show _+1≤_; omega)⟩
  rw [rev1]
  exact (ex2.trans (Ex.one fun x told r h=>.same nk h)).le (by omega)
 ·exact go (v:=0)
 ·exact ⟨H0,A',B,W,ss,rows,stk,sl,d,rfl,hb,lro,lst,lsl,q⟩
 ·exact go (v:=0)
 ·exact go (v:=0)
end
end K65
end
section
set_option format.width 300
namespace K65
open PySem L2 MM
open Mach (AV AFr Row Sg Blk MS PL Mem getP updM seen Z0K Bd)
seal L2.PE L2.PA L2.PT L2.PS L2.PSs L2.PG L2.PGs L2.PI L2.PW
open MT (Kd fk Wo VT Seg Sf)
inductive Z7y (K:W.Frag) (vs:List V) (H:Hp) (Q:VK):Prop
 | mk (A:WA) (W:Wo) (ss:List Nat) (ps:List Kd) (told:Kd) (pl:Addr) (c:Int) (many:Nat) (a1:vs=[.ref A.wd,.ref pl,kd told,.int c,.int many]) (a2:WO K H A W ss.length) (a3:WF W) (a4:H pl=some (.lst (ps.map kd))) (a5:pl≠A.si) (a6:(∀ k∈ps,k≠.hx)) (a7:ps.length≤3) (a8:told≠.hx) (a9:many≤8) (a10:∀ v x rows H',(∀ b o,b≠A.si→H b=some o→H' b=some o)→SameT H H'→H' A.si=some (.lst [.int (ss++x).length])→x.length≤8→BlkAt K H' v ⟨ps.length,ps.length+2,rows⟩→Sf W (ss++x) told rows (ps.map some++[none,none]) []→rows.length≤600→Q v H'):Z7y K vs H Q
def Z7r (K:W.Frag):Sp:=fun vs H Q _=>Z7y K vs H Q
section
variable {C_Places C_Machine D_ROW_SIGNS:Addr} {P:Program} {w:World} {K:W.Frag} {mg:Str→Option Value} {base:Heap}
noncomputable def BKI (K:W.Frag) (H0:Hp) (A:WA) (W:Wo) (ss:List Nat) (p:Addr) (sl0:List (Option Kd)) (σ0:St) (i:Nat) (σ:St) (H:Hp):Prop:=∃ B x rows stk sl o,Bo K H0 H A B W (ss++x) rows stk sl∧x.length≤i∧B.st=p∧sl.length=sl0.length∧Ex W (ss++x) (60 * i) [] sl0 [] rows sl stk.reverse∧stk.length≤i∧σ=σ0++[o]
theorem J0F (T:Txt P w K mg C_Places C_Machine D_ROW_SIGNS) (h__law_mixed:Has P w K mg base 1 "_law_mixed" ["_law_cell","_law_k"] Z2Y) (h__law_want:Has P w K mg base 5 "_law_want" ["_law_world_here","_law_state","_law_kinds","_law_cell"] (Z3G K)) (h__law_piece:Has P w K mg base 7 "_law_piece" ["_law_world_here","_law_state","_law_cell"] (Z1F K)):Has P w K mg base 8 "_law_block" ["_law_world_here","_law_params","_law_told","_law_cell","_law_many"] (Z7r K):=by
 refine Has.of T.f__law_block sc__law_block (fun _ _ _ _ _ _ us hl=>el5 us hl fun _ _ _ _ _=>rfl) (fun vs H Q E h=>?_) (fun f cdv A outer s H vs Q E hr h=>?_)
 ·obtain ⟨A,W,ss,ps,told,pl,c,many,rfl,_⟩:=h
  rfl
 obtain ⟨A',W,ss,ps,told,pl,c,many,rfl,hw,wf,hpl,npl,hps,lps,htold,lm,q⟩:=h
 refine ⟨_,(Z0d (Z0I (i:=5) sc__law_block.nd rfl (Or.inl rfl) (Z8N (Z2u Z0g (Z0D Z0b) (Z2u Z0g (Z0D Z0b) (Z2u Z0g (Z0k Z2D (Z1r Z1X rfl T.z_list Z3X (Z0a (pvF 1) Z0b)) (Z0D (Z0a Z1E (Z0a Z1E Z0b)))) Z8h))) rfl rfl (by exact List.cons_ne_nil _ _) (by first | decide | omega)))
  (Z0d (Z3g PassesOwn.never rfl (Z0Q rfl T.z_range (Z0a (pvF 4) Z0b)) (Z0v (i:=6) sc__law_block.nd rfl (Or.inl rfl)) (Z0f (Z0p (Z0x h__law_piece hr (by first | decide | omega) rfl (Z0a (pvF 0) (Z0a (pvF 5) (Z0a (Z0x h__law_mixed hr (by first | decide | omega) rfl (Z0a (pvF 3) (Z0a (Z0k Z0N Z0c (pvF 6)) Z0b))) Z0b)))))))
  (Z0d (Z0p (Z0x h__law_want hr (by first | decide | omega) rfl (Z0a (pvF 0) (Z0a (pvF 5) (Z0a (Z0D (Z0a (pvF 2) Z0b)) (Z0a (pvF 3) Z0b))))))
  (Z0f (Z0y (Z0A (Z0a (Z0q Z0l rfl T.z_len Z0O (Z0a (pvF 1) Z0b)) (Z0a (Z0k Z0N (Z0q Z0l rfl T.z_len Z0O (Z0a (pvF 1) Z0b)) Z0c) (Z0a (Z1r Z1B rfl T.z_tuple Z2Z (Z0a (Z0k Z2D (Z0n (Z0F hr) (pvF 5) Z0g (fun _ _=>rfl)) (Z0D (Z0a (Z0A (Z0a Z0g Z0b)) Z0b))) Z0b)) Z0b))))))))),?_⟩
 refine seq4 fun uz3 huz3 uz2 huz2 uz1 huz1=>?_
 walk_at "rd"
 refine New.of fun p H1 h1 s1 e1=>New.of fun p1 H2 h2 s2 e2=>New.of fun p2 H3 h3 s3 e3=>⟨_,.inl (SqL.of ((s1.trans (s2.trans s3)) _ _ hpl)),fun l hl=>?_⟩
 have s4:=Z0i hl (.lst (ps.map kd))
 have e4:upd H3 l (.lst (ps.map kd)) l=some (.lst (ps.map kd)):=Z0e
 generalize upd H3 l (.lst (ps.map kd))=H4 at s4 e4 ⊢
 refine New.of fun p3 H5 h5 s5 e5=>⟨_,s5 _ _ e4,_,e5,by rw [List.length_map]; show _+2≤_; omega,New.of fun p4 H6 h6 s6 e6=>?_⟩
 have S16:=s2.trans (s3.trans (s4.trans (s5.trans s6)))
 have hp6:=S16 _ _ e1
 refine ⟨hp6,[(.inr "rows",.ref p1),(.inr "stack",.ref p2),(.inr "slots",.ref p4)],rfl,by show 3≤15; omega,?_⟩
 have hb:Bo K H (upd H6 p (.dK (Z2z [] [(.inr "rows",.ref p1),(.inr "stack",.ref p2),(.inr "slots",.ref p4)]))) A' ⟨p,p1,p2,p4⟩ W ss [] [] (ps.map some++[none,none]):=by
  have S:Same H H6:=s1.trans S16
  have np:∀ {a:Addr} {o:HO},H a=some o→a≠p:=fun {a o} e z=>by rw [z,h1] at e; cases e
  have nl:∀ {a:Addr} {xs:List V},H6 a=some (.lst xs)→a≠p:=fun {a xs} e z=>by rw [z,hp6] at e; cases e
  have f2:=(s3.trans (s4.trans (s5.trans s6))) _ _ e2
  have f3:=(s4.trans (s5.trans s6)) _ _ e3
  have tt:=Z2l (.dK (Z2z [] [(.inr "rows",.ref p1),(.inr "stack",.ref p2),(.inr "slots",.ref p4)])) hp6 J0T
  refine ⟨⟨_,hw⟩,fun b o _ e=>by rw [Z0h (np e)]; exact S _ _ e,(Same.t S).trans tt,wf,by rw [Z0h (np hw.si)]; exact S _ _ hw.si,⟨by rw [Z0e]; rfl,⟨[],by rw [Z0h (nl f2)]; exact f2,.nil⟩,by rw [Z0h (nl f3)]; exact f3,?_,⟨fun z=>?_,fun z=>?_,fun z=>?_⟩,(fun k hk=>by cases hk),fun k hk=>?_⟩,⟨h1,Z0V s1 h2,Z0V (s1.trans s2) h3,Z0V (s1.trans (s2.trans (s3.trans (s4.trans s5)))) h6⟩,?_,Nat.zero_le _,Nat.zero_le _⟩
  ·show upd H6 p _ p4=_
   rw [Z0h (nl e6),List.map_append,List.map_map]; exact e6
  ·have z:p1=p2:=z
   rw [← z,e2] at h3; cases h3
  ·have z:p1=p4:=z
   rw [← z,(s3.trans (s4.trans s5)) _ _ e2] at h6; cases h6
  ·have z:p2=p4:=z
   rw [← z,(s4.trans s5) _ _ e3] at h6; cases h6
  ·rcases List.mem_append.mp hk with hk | hk
   ·obtain ⟨k',m1,m2⟩:=List.mem_map.mp hk
    cases m2
    exact hps _ m1
   ·simp at hk
  ·rw [List.length_append,List.length_map]; show _+2≤_; omega
 have l0:(ps.map some++[none,none]).length=ps.length+2:=by rw [List.length_append,List.length_map]; rfl
 generalize upd H6 p (.dK (Z2z [] [(.inr "rows",.ref p1),(.inr "stack",.ref p2),(.inr "slots",.ref p4)]))=H7 at hb ⊢
 subst huz1
 walk_at "rd"
 refine ⟨by omega,by omega,?_⟩
 rw [Int.toNat_natCast]
 refine Z1n (BKI K H A' W ss p (ps.map some++[none,none]) [some (.ref A'.wd),some (.ref pl),some (kd told),some (.int c),some (.int many),some (.ref p)]) ⟨⟨p,p1,p2,p4⟩,[],[],[],_,none,by rw [List.append_nil]; exact hb,Nat.le_refl _,rfl,rfl,Ex.refl,Nat.le_refl _,rfl⟩ (fun i σ H8 hi hI=>?_) (fun σ H8 hI=>?_)
 ·obtain ⟨B,x,rows,stk,sl,o,hb8,lx,st8,ll,ex,lst,rfl⟩:=hI
  rw [Int.zero_add]
  have lr:=ex.len
  have lr':rows.length≤60 * i:=by rw [List.length_nil] at lr; omega
  walk_at "rd"
  refine ⟨c,_,rfl,fun r hr=>⟨H,A',B,W,ss++x,rows,stk,sl,r,by rw [st8],hb8,by omega,by omega,by omega,fun B' x' rows' stk' sl' H' lx' hb' st' l' ex' ls'=>?_⟩⟩
  rw [List.append_assoc] at hb' ex'
  refine ⟨B',x++x',rows',stk',sl',_,hb',by rw [List.length_append]; omega,st'.trans st8,l'.trans ll,?_,by omega,rfl⟩
  have:=ex.mono x'
  rw [List.append_assoc] at this
  exact (this.trans ex').le (by omega)
 ·obtain ⟨B,x,rows,stk,sl,o,hb8,lx,st8,ll,ex,lst,rfl⟩:=hI
  have lr:=ex.len
  have lr':rows.length≤480:=by rw [List.length_nil] at lr; omega
  subst huz2
  walk_at "rd"
  refine New.of fun l9 H9 h9 s9 e9=>?_
  obtain ⟨us0,u0,_⟩:=hb8.s.r
  refine ⟨H,A',B,W,ss++x,rows,stk,sl,[told],l9,c,by rw [st8],hb8.same s9,e9,(fun z=>by rw [z,u0] at h9; cases h9),by show 1≤3; omega,(fun k hk=>by cases List.mem_singleton.mp hk; exact htold),by omega,fun B2 rows2 stk2 H10 hb10 st10 ex10 l10=>?_⟩
  have lr10:=ex10.len
  rw [← st8,← st10]
  subst huz3
  walk_at "rd"
  have hp10:=hb10.k _ _ npl hpl
  obtain ⟨us,u1,u2⟩:=hb10.s.r
  have lus:=u2.length
  refine ⟨_,.inl (SqL.of hp10),_,.inl (SqL.of hp10),_,hb10.s.get.1,New.of fun ta Ha ha sa ea=>New.of fun lb Hb hb' sb eb=>⟨_,rfl,_,(sa.trans sb) _ _ u1,_,eb,by show _+1≤_; omega,New.of fun lc Hc hc sc ec=>⟨_,.inl ⟨SqL.of ec,fun td hd=>?_⟩⟩⟩⟩
  have sd:=Z0i hd (.tup (us++[V.ref ta]))
  have ed:upd Hc td (.tup (us++[V.ref ta])) td=some (.tup (us++[V.ref ta])):=Z0e
  generalize upd Hc td (.tup (us++[V.ref ta]))=Hd at sd ed ⊢
  rw [List.length_map]
  refine New.of fun te He he se ee=>?_
  have SE:=sa.trans (sb.trans (sc.trans (sd.trans se)))
  have hbe:=hb10.same SE
  have bk:RowV K He (.ref ta) .back:=⟨ta,rfl,SqT.of ((sb.trans (sc.trans (sd.trans se))) _ _ ea)⟩
  refine q (.ref te) x (rows2++[.back]) He hbe.k hbe.t hbe.si (Nat.le_trans lx lm) ⟨te,td,_,rfl,SqT.of ee,SqT.of (se _ _ ed),Paired.appendP (Z1O u2 (Same.t SE)) (.cons bk .nil)⟩ ?_ (by rw [List.length_append]; show _+1≤_; omega)
  obtain ⟨more,em,_,sg⟩:=ex.trans ex10
  rw [em,List.nil_append]
  have:=sg [] told [.back]
  rw [List.append_nil] at this
  exact this .back
end
end K65
end
section
set_option format.width 300
namespace K65
open PySem L2 MM
open Mach (AV AFr Row Sg Blk MS PL Mem getP updM seen Z0K Bd)
seal L2.PE L2.PA L2.PT L2.PS L2.PSs L2.PG L2.PGs L2.PI L2.PW
open MT (Kd fk Wo VT Seg Sf)
noncomputable def Ls (A:WA) (bl tb:Addr):List Addr:=[A.hd,A.ow,A.si,bl,tb]
noncomputable def HdL (L:List Addr) (H:Hp) (v:V) (h:List Kd×Kd):Prop:=∃ t p,v=.ref t∧H t=some (.tup [.ref p,kd h.2])∧H p=some (.lst (h.1.map kd))∧p∉L
noncomputable def TbL (L:List Addr) (H:Hp) (v:V) (t:List (Option Nat)):Prop:=∃ ta,v=.ref ta∧H ta=some (.lst (t.map tabV))∧ta∉L
theorem HdL.ch {L:List Addr} {H H':Hp} {v:V} {h:List Kd×Kd} (x:HdL L H v h) (c:Ch L H H'):HdL L H' v h:=let ⟨t,p,a,b,e,d⟩:=x; ⟨t,p,a,(c.t t _).1 b,c.k _ _ d e,d⟩
theorem TbL.ch {L:List Addr} {H H':Hp} {v:V} {t:List (Option Nat)} (x:TbL L H v t) (c:Ch L H H'):TbL L H' v t:=let ⟨ta,a,b,e⟩:=x; ⟨ta,a,c.k _ _ e b,e⟩
structure WX (H0 H:Hp) (A:WA) (bl tb:Addr) (fs:List Nat):Prop where
 d:H A.wd=some (.dK [(.inr "heads",.ref A.hd),(.inr "owners",.ref A.ow),(.inr "sites",.ref A.si),(.inr "blocks",.ref bl),(.inr "tables",.ref tb),(.inr "fields",.ref A.fl)])
 fl:H A.fl=some (.lst (fs.map fun (m:Nat)=>V.int m))
 nd:(A.hd≠A.ow∧A.hd≠A.si∧A.hd≠bl∧A.hd≠tb)∧(A.ow≠A.si∧A.ow≠bl∧A.ow≠tb)∧(A.si≠bl∧A.si≠tb)∧bl≠tb
 nf:A.fl∉Ls A bl tb
 nw:A.wd∉Ls A bl tb
 s0:Same H0 H
 fr:∀ a∈Ls A bl tb,H0 a=none
theorem WX.ch {H0 H H':Hp} {A:WA} {bl tb:Addr} {fs:List Nat} (h:WX H0 H A bl tb fs) (c:Ch (Ls A bl tb) H H'):WX H0 H' A bl tb fs:=
 ⟨c.k _ _ h.nw h.d,c.k _ _ h.nf h.fl,h.nd,h.nf,h.nw,fun b o e=>c.k b o (fun z=>by rw [h.fr b z] at e; cases e) (h.s0 b o e),h.fr⟩
structure WB (K:W.Frag) (H0 H:Hp) (A:WA) (bl tb:Addr) (W:Wo) (n:Nat) (bk:List Blk) (tk:List (List (Option Nat))):Prop where
 x:WX H0 H A bl tb W.fields
 hd:∃ hv,H A.hd=some (.lst hv)∧Paired (HdL (Ls A bl tb) H) hv W.heads
 ow:H A.ow=some (.lst (W.owners.map fun (m:Nat)=>V.int m))
 si:H A.si=some (.lst [.int n])
 bb:∃ bs,H bl=some (.lst bs)∧Paired (BlkAt K H) bs bk
 tt:∃ ts,H tb=some (.lst ts)∧Paired (TbL (Ls A bl tb) H) ts tk
section
variable {K:W.Frag} {H0 H H':Hp} {A:WA} {bl tb:Addr} {W:Wo} {n:Nat} {bk:List Blk} {tk:List (List (Option Nat))}
theorem Z4U {L:List Addr} {hv:List V} {hs:List (List Kd×Kd)} (h:Paired (HdL L H) hv hs) (c:Ch L H H'):Paired (HdL L H') hv hs:=Paired.imp' (fun _ _ x=>x.ch c) h
theorem Z4X {L:List Addr} {hv:List V} {hs:List (List (Option Nat))} (h:Paired (TbL L H) hv hs) (c:Ch L H H'):Paired (TbL L H') hv hs:=Paired.imp' (fun _ _ x=>x.ch c) h
theorem Z5M {hv:List V} {hs:List Blk} (h:Paired (BlkAt K H) hv hs) (c:SameT H H'):Paired (BlkAt K H') hv hs:=Paired.imp' (fun _ _ x=>x.t c) h
theorem WB.same (h:WB K H0 H A bl tb W n bk tk) (s:Same H H'):WB K H0 H' A bl tb W n bk tk:=by
 obtain ⟨hv,h1,h2⟩:=h.hd
 obtain ⟨bs,b1,b2⟩:=h.bb
 obtain ⟨ts,t1,t2⟩:=h.tt
 exact ⟨h.x.ch (.of s),⟨hv,s _ _ h1,Z4U h2 (.of s)⟩,s _ _ h.ow,s _ _ h.si,⟨bs,s _ _ b1,Z5M b2 (Same.t s)⟩,⟨ts,s _ _ t1,Z4X t2 (.of s)⟩⟩
theorem WB.addH (h:WB K H0 H A bl tb W n bk tk) {hv:List V} {v:V} {p:List Kd×Kd} (e:H A.hd=some (.lst hv)) (hp:HdL (Ls A bl tb) H v p):WB K H0 (upd H A.hd (.lst (hv++[v]))) A bl tb { W with heads:=W.heads++[p] } n bk tk:=by
 obtain ⟨hv',h1,h2⟩:=h.hd
 rw [e] at h1
 cases h1
 obtain ⟨bs,b1,b2⟩:=h.bb
 obtain ⟨ts,t1,t2⟩:=h.tt
 have c:Ch (Ls A bl tb) H (upd H A.hd (.lst (hv++[v]))):=.put _ e List.mem_cons_self
 obtain ⟨⟨n1,n2,n3,n4⟩,-⟩:=h.x.nd
 exact ⟨h.x.ch c,⟨_,Z0e,Z4U (Paired.appendP h2 (.cons hp .nil)) c⟩,by rw [Z0h n1.symm]; exact h.ow,by rw [Z0h n2.symm]; exact h.si,⟨bs,by rw [Z0h n3.symm]; exact b1,Z5M b2 c.t⟩,⟨ts,by rw [Z0h n4.symm]; exact t1,Z4X t2 c⟩⟩
theorem WB.addO (h:WB K H0 H A bl tb W n bk tk) (more:List Nat):WB K H0 (upd H A.ow (.lst ((W.owners.map fun (m:Nat)=>V.int m)++more.map fun (m:Nat)=>V.int m))) A bl tb { W with owners:=W.owners++more } n bk tk:=by
 obtain ⟨hv,h1,h2⟩:=h.hd
 obtain ⟨bs,b1,b2⟩:=h.bb
 obtain ⟨ts,t1,t2⟩:=h.tt
 have c:Ch (Ls A bl tb) H (upd H A.ow (.lst ((W.owners.map fun (m:Nat)=>V.int m)++more.map fun (m:Nat)=>V.int m))):=.put _ h.ow (List.mem_cons_of_mem _ List.mem_cons_self)
 obtain ⟨⟨n1,-⟩,⟨n5,n6,n7⟩,-⟩:=h.x.nd
 exact ⟨h.x.ch c,⟨hv,by rw [Z0h n1]; exact h1,Z4U h2 c⟩,by rw [Z0e,List.map_append],by rw [Z0h n5.symm]; exact h.si,⟨bs,by rw [Z0h n6.symm]; exact b1,Z5M b2 c.t⟩,⟨ts,by rw [Z0h n7.symm]; exact t1,Z4X t2 c⟩⟩
theorem WB.addT (h:WB K H0 H A bl tb W n bk tk) {ts:List V} {v:V} {p:List (Option Nat)} (e:H tb=some (.lst ts)) (hp:TbL (Ls A bl tb) H v p):WB K H0 (upd H tb (.lst (ts++[v]))) A bl tb W n bk (tk++[p]):=by
 obtain ⟨ts',t1,t2⟩:=h.tt
 rw [e] at t1
 cases t1
 obtain ⟨bs,b1,b2⟩:=h.bb
 obtain ⟨hv,h1,h2⟩:=h.hd
 have c:Ch (Ls A bl tb) H (upd H tb (.lst (ts++[v]))):=.put _ e (List.mem_cons_of_mem _ (List.mem_cons_of_mem _ (List.mem_cons_of_mem _ (List.mem_cons_of_mem _ List.mem_cons_self))))
 obtain ⟨⟨_,_,_,n4⟩,⟨_,_,n7⟩,⟨_,n9⟩,n10⟩:=h.x.nd
 exact ⟨h.x.ch c,⟨hv,by rw [Z0h n4]; exact h1,Z4U h2 c⟩,by rw [Z0h n7]; exact h.ow,by rw [Z0h n9]; exact h.si,⟨bs,by rw [Z0h n10]; exact b1,Z5M b2 c.t⟩,⟨_,Z0e,Z4X (Paired.appendP t2 (.cons hp .nil)) c⟩⟩
theorem WB.addB (h:WB K H0 H A bl tb W n bk tk) {bs:List V} {v:V} {b:Blk} (e:H bl=some (.lst bs)) (hp:BlkAt K H v b):WB K H0 (upd H bl (.lst (bs++[v]))) A bl tb W n (bk++[b]) tk:=by
 obtain ⟨bs',b1,b2⟩:=h.bb
 rw [e] at b1
 cases b1
 obtain ⟨ts,t1,t2⟩:=h.tt
 obtain ⟨hv,h1,h2⟩:=h.hd
 have c:Ch (Ls A bl tb) H (upd H bl (.lst (bs++[v]))):=.put _ e (List.mem_cons_of_mem _ (List.mem_cons_of_mem _ (List.mem_cons_of_mem _ List.mem_cons_self)))
 obtain ⟨⟨_,_,n3,_⟩,⟨_,n6,_⟩,⟨n8,_⟩,n10⟩:=h.x.nd
 exact ⟨h.x.ch c,⟨hv,by rw [Z0h n3]; exact h1,Z4U h2 c⟩,by rw [Z0h n6]; exact h.ow,by rw [Z0h n8]; exact h.si,⟨_,Z0e,Z5M (Paired.appendP b2 (.cons hp .nil)) c.t⟩,⟨ts,by rw [Z0h n10.symm]; exact t1,Z4X t2 c⟩⟩
theorem WB.ran (h:WB K H0 H A bl tb W n bk tk) {m:Nat} (k:∀ b o,b≠A.si→H b=some o→H' b=some o) (t:SameT H H') (e:H' A.si=some (.lst [.int m])):WB K H0 H' A bl tb W m bk tk:=by
 obtain ⟨hv,h1,h2⟩:=h.hd
 obtain ⟨bs,b1,b2⟩:=h.bb
 obtain ⟨ts,t1,t2⟩:=h.tt
 have c:Ch (Ls A bl tb) H H':=⟨t,fun b o n e=>k b o (fun z=>n (by rw [z]; exact List.mem_cons_of_mem _ (List.mem_cons_of_mem _ List.mem_cons_self))) e⟩
 obtain ⟨⟨_,n2,_,_⟩,⟨n5,_,_⟩,⟨n8,n9⟩,_⟩:=h.x.nd
 exact ⟨h.x.ch c,⟨hv,k _ _ n2 h1,Z4U h2 c⟩,k _ _ n5 h.ow,e,⟨bs,k _ _ n8.symm b1,Z5M b2 t⟩,⟨ts,k _ _ n9.symm t1,Z4X t2 c⟩⟩
theorem WB.wo (h:WB K H0 H A bl tb W n bk tk):WO K H A W n:=by
 obtain ⟨hv,h1,h2⟩:=h.hd
 have ms:A.si∈Ls A bl tb:=List.mem_cons_of_mem _ (List.mem_cons_of_mem _ List.mem_cons_self)
 exact ⟨⟨_,h.x.d,rfl,rfl,rfl,rfl⟩,h.x.fl,⟨hv,h1,Paired.imp' (fun _ _ ⟨t,p,a,b,c,d⟩=>⟨t,p,a,b,c,fun z=>d (by rw [z]; exact ms)⟩) h2⟩,h.ow,h.si,⟨fun z=>h.x.nf (by rw [z]; exact ms),h.x.nd.1.2.1,h.x.nd.2.1.1⟩⟩
theorem WB.get (h:WB K H0 H A bl tb W n bk tk):DGet H A.wd (.str "blocks") (some (.ref bl))∧DGet H A.wd (.str "tables") (some (.ref tb)):=⟨DGet.k (k:=.inr "blocks") h.x.d,DGet.k (k:=.inr "tables") h.x.d⟩
end
theorem WB.nin {K:W.Frag} {H0 H:Hp} {A:WA} {bl tb:Addr} {W:Wo} {n:Nat} {bk:List Blk} {tk:List (List (Option Nat))} (h:WB K H0 H A bl tb W n bk tk) {a:Addr} (e:H a=none):a∉Ls A bl tb:=fun z=>by
 obtain ⟨hv,u1,_⟩:=h.hd
 obtain ⟨bs,u2,_⟩:=h.bb
 obtain ⟨ts,u3,_⟩:=h.tt
 simp only [Ls,List.mem_cons,List.not_mem_nil,or_false] at z
 rcases z with rfl | rfl | rfl | rfl | rfl
 ·rw [u1] at e; cases e
 ·rw [h.ow] at e; cases e
 ·rw [h.si] at e; cases e
 ·rw [u2] at e; cases e
 ·rw [u3] at e; cases e
theorem J2e {vs:List V}:∀ {p:Nat→Nat→Prop},(∀ (j:Nat) v,vs[j]?=some v→∃ m:Nat,v=.int m∧p j m)→∃ fs:List Nat,vs=(fs.map fun (m:Nat)=>V.int m)∧∀ (j m:Nat),fs[j]?=some m→p j m:=by
 induction vs with
 | nil=>exact fun _=>⟨[],rfl,fun j m h=>by simp at h⟩
 | cons v vs ih=>
  intro p h
  obtain ⟨m,rfl,hm⟩:=h 0 v rfl
  obtain ⟨fs,rfl,hf⟩:=ih (p:=fun j m=>p (j+1) m) fun j u hu=>h (j+1) u hu
  refine ⟨m::fs,rfl,fun j k hk=>?_⟩
  cases j with
  | zero=>cases hk; exact hm
  | succ j=>exact hf j k hk
theorem Z9g {vs:List V} {p:Int→Prop}:(∀ (j:Nat) v,vs[j]?=some v→∃ m:Int,v=.int m∧p m)→∃ fs:List Int,vs=fs.map V.int∧∀ m∈fs,p m:=by
 induction vs with
 | nil=>exact fun _=>⟨[],rfl,fun m h=>by cases h⟩
 | cons v vs ih=>
  intro h
  obtain ⟨m,rfl,hm⟩:=h 0 v rfl
  obtain ⟨fs,rfl,hf⟩:=ih fun j u hu=>h (j+1) u hu
  exact ⟨m::fs,rfl,fun k hk=>(List.mem_cons.mp hk).elim (fun e=>e▸hm) (hf k)⟩
end K65
end
section
set_option format.width 300
namespace K65
open PySem L2 MM
open Mach (AV AFr Row Sg Blk MS PL Mem getP updM seen Z0K Bd)
seal L2.PE L2.PA L2.PT L2.PS L2.PSs L2.PG L2.PGs L2.PI L2.PW
open MT (Kd fk Wo VT Seg Sf)
theorem J1W {j:Int} (h:0≤j∧j < 4):∃ k x,k≠Kd.hx∧atI (Str.ofString "nnth").cps.toList j=some x∧V.str { cps:=#[x] }=kd k:=by
 rcases (show j=0∨j=1∨j=2∨j=3 by omega) with e | e | e | e
 ·subst e; exact ⟨.n,110,Kd.noConfusion,by decide +kernel,congrArg V.str (by decide +kernel)⟩
 ·subst e; exact ⟨.n,110,Kd.noConfusion,by decide +kernel,congrArg V.str (by decide +kernel)⟩
 ·subst e; exact ⟨.t,116,Kd.noConfusion,by decide +kernel,congrArg V.str (by decide +kernel)⟩
 ·subst e; exact ⟨.h,104,Kd.noConfusion,by decide +kernel,congrArg V.str (by decide +kernel)⟩
structure HOk (heads:List (List Kd×Kd)) (owners:List Nat):Prop where
 hk:∀ h∈heads,h.1.length≤2∧(∀ k∈h.1,k≠.hx)∧h.2≠.hx
 ob:∀ b∈owners,b < heads.length
 oa:∀ w,w < heads.length→∃ b:Nat,owners[b]?=some w
 ol:owners.length≤3 * heads.length
theorem HOk.add {heads:List (List Kd×Kd)} {owners:List Nat} (h:HOk heads owners) {p:List Kd×Kd} {n:Nat} (hp:p.1.length≤2∧(∀ k∈p.1,k≠.hx)∧p.2≠.hx) (h1:1≤n) (h3:n≤3):HOk (heads++[p]) (owners++List.replicate n heads.length) where
 hk:=fun x hx=>(List.mem_append.mp hx).elim (h.hk x) fun e=>by cases List.mem_singleton.mp e; exact hp
 ob:=fun b hb=>by
  rw [List.length_append]
  rcases List.mem_append.mp hb with e | e
  ·exact Nat.lt_of_lt_of_le (h.ob b e) (Nat.le_add_right _ _)
  ·rw [List.eq_of_mem_replicate e]; exact Nat.lt_succ_self _
 oa:=fun w hw=>by
  rw [List.length_append] at hw
  rcases Nat.lt_or_ge w heads.length with e | e
  ·obtain ⟨b,hb⟩:=h.oa w e
   exact ⟨b,by rw [List.getElem?_append_left (List.getElem?_eq_some_iff.mp hb).1]; exact hb⟩
  ·have e:w=heads.length:=by have:w < heads.length+1:=hw; omega
   refine ⟨owners.length,?_⟩
   rw [List.getElem?_append_right (Nat.le_refl _),Nat.sub_self,List.getElem?_replicate,if_pos (by omega),e]
 ol:=by
  rw [List.length_append,List.length_append,List.length_replicate]
  have:=h.ol
  show _≤3 * (_+1)
  omega
noncomputable def WI1 (K:W.Frag) (H0:Hp) (A:WA) (bl tb:Addr) (fs:List Nat) (σ0:Option V→Option V→St) (i:Nat) (σ:St) (H:Hp):Prop:=∃ heads owners x y,WB K H0 H A bl tb ⟨fs,heads,owners⟩ 0 [] []∧heads.length=i∧HOk heads owners∧σ=σ0 x y
def J0i (heads:List (List Kd×Kd)) (owners:List Nat) (t:List (Option Nat)):Prop:=t.length=heads.length+1∧(∀ w,w < heads.length→∃ b:Nat,t[w]?=some (some b)∧owners[b]?=some w)∧∀ b:Nat,some b∈t→b < owners.length
noncomputable def WI2 (K:W.Frag) (H0:Hp) (A:WA) (bl tb:Addr) (W:Wo) (σ0:Option V→Option V→Option V→Option V→St) (i:Nat) (σ:St) (H:Hp):Prop:=∃ tabs x3 x5 x6 x7,WB K H0 H A bl tb W 0 [] tabs∧tabs.length=i∧(∀ t∈tabs,J0i W.heads W.owners t)∧σ=σ0 x3 x5 x6 x7
noncomputable def WI3 (H0:Hp) (ro:Addr) (owners:List Nat) (σ0:Option V→Option V→St) (j:Nat) (σ:St) (H:Hp):Prop:=∃ (xs:List Nat) (x3 x7:Option V),Ch [ro] H0 H∧H ro=some (.lst (xs.map fun (m:Nat)=>V.int m))∧xs.length=j∧(∀ w,w < j→∃ b:Nat,xs[w]?=some b∧owners[b]?=some w)∧σ=σ0 x3 x7
def BOk (W:Wo) (B:Blk):Prop:=B.params≤6∧B.size≤6∧B.rows.length≤600∧∀ q∈B.rows,MT.Sm W 100 6 q
def J4u (W:Wo) (ss:List Nat) (bks:List Blk):Prop:=∀ (b:Nat) (B:Blk) (w:Nat) (ps:List Kd) (tk:Kd),bks[b]?=some B→W.owners[b]?=some w→W.heads[w]?=some (ps,tk)→B.size=1+ps.length+2∧Sf W ss tk B.rows (some .h::ps.map some++[none,none]) []
noncomputable def WI4 (K:W.Frag) (H0:Hp) (A:WA) (bl tb:Addr) (W:Wo) (tabs:List (List (Option Nat))) (σ0:Option V→Option V→Option V→Option V→St) (i:Nat) (σ:St) (H:Hp):Prop:=∃ ss bks x8 x9 x10 x11,WB K H0 H A bl tb W ss.length bks tabs∧ss.length≤8 * i∧bks.length=i∧J4u W ss bks∧(∀ B∈bks,BOk W B)∧σ=σ0 x8 x9 x10 x11
noncomputable def TbV (H:Hp) (v:V) (t:List (Option Nat)):Prop:=∃ ta,v=.ref ta∧H ta=some (.lst (t.map tabV))
structure WR (K:W.Frag) (H:Hp) (wd bl tb nl:Addr) (bks:List Blk) (tabs:List (List (Option Nat))) (nums:List Int):Prop where
 d:∃ kvs,H wd=some (.dK kvs)∧valV kvs (.inr "blocks")=some (.ref bl)∧valV kvs (.inr "tables")=some (.ref tb)∧valV kvs (.inr "numbers")=some (.ref nl)
 bb:∃ bs,H bl=some (.lst bs)∧Paired (BlkAt K H) bs bks
 tt:∃ ts,H tb=some (.lst ts)∧Paired (TbV H) ts tabs
 nn:H nl=some (.lst (nums.map V.int))
structure WG (W:Wo) (ss:List Nat) (bks:List Blk) (tabs:List (List (Option Nat))) (nums:List Int):Prop where
 wf:WF W
 tk:tabs.length=W.fields.length∧∀ t∈tabs,J0i W.heads W.owners t
 bo:J4u W ss bks
 mn:∃ front b told,bks=front++[b]∧front.length=W.owners.length∧b.size=nums.length+2∧Sf W ss told b.rows (List.replicate nums.length (some .n)++[none,none]) []
 bs:∀ B∈bks,BOk W B
 nn:(∀ n∈nums,Bd n)∧nums.length≤3
inductive Z6P (K:W.Frag) (vs:List V) (H:Hp) (Q:VK):Prop
 | mk (a:Addr) (ns:List Int) (a1:vs=[.ref a]) (a2:SqL K H a (ns.map V.int)) (a3:∀ wd bl tb nl W ss bks tabs nums H',Same H H'→WR K H' wd bl tb nl bks tabs nums→WG W ss bks tabs nums→Q (.ref wd) H'):Z6P K vs H Q
def J0n (K:W.Frag):Sp:=fun vs H Q _=>Z6P K vs H Q
section
variable {C_Places C_Machine D_ROW_SIGNS:Addr} {P:Program} {w:World} {K:W.Frag} {mg:Str→Option Value} {base:Heap}
theorem J0D (T:Txt P w K mg C_Places C_Machine D_ROW_SIGNS) (h__law_cell_at:Has P w K mg base 1 "_law_cell_at" ["_law_script","_law_k"] (Z5h K)) (h__law_mixed:Has P w K mg base 1 "_law_mixed" ["_law_cell","_law_k"] Z2Y) (h__law_number:Has P w K mg base 1 "_law_number" ["_law_cell"] Z3v) (h__law_block:Has P w K mg base 8 "_law_block" ["_law_world_here","_law_params","_law_told","_law_cell","_law_many"] (Z7r K)):Has P w K mg base 9 "_law_world" ["_law_script"] (J0n K):=by
  refine Has.of T.f__law_world sc__law_world (fun _ _ _ _ _ _ us hl=>el1 us hl fun _=>rfl) (fun vs H Q E h=>?_) (fun f cdv A outer s H vs Q E hr h=>?_)
  · obtain ⟨a,ns,rfl,_⟩:=h
    rfl
  obtain ⟨a,ns,rfl,sq,q⟩:=h
  refine ⟨_,(Z0d (Z0I (i:=1) sc__law_world.nd rfl (Or.inr rfl) (Z0x h__law_cell_at hr (by first | decide | omega) rfl (Z0a (pvF 0) (Z0a Z0c Z0b))))
    (Z0d (Z0I (i:=2) sc__law_world.nd rfl (Or.inr rfl) (Z8N (Z2u Z0g (Z0D Z0b) (Z2u Z0g (Z0D Z0b) (Z2u Z0g (Z0D (Z0a Z0c Z0b)) (Z2u Z0g (Z0D Z0b) (Z2u Z0g (Z0D Z0b) Z8h))))) rfl rfl (by exact List.cons_ne_nil _ _) (by first | decide | omega)))
    (Z0d (Z3D (Z0F hr) (pvF 2) Z0g (Z3T rfl (BlockOk.of (N:=["_law_k","_law_one"]) (nl:=[none,some 1]) (cl:=[("_law_one",s.heap.objs.size+2)]) rfl (by decide +kernel) (by decide +kernel) rfl (sub1 rfl) (nm:=["_law_one"]) rfl (by decide +kernel) rfl (fun i hi j hj=>by
            match i,hi with
            | 0,_=>cases hj
             | 1,_=>cases hj; exact ⟨_,rfl,rfl,rfl,.inl rfl⟩
            )) (Z0Q rfl T.z_range (Z0a (Z0k Z0N Z0c (Z0k Z0G (pvF 1) Z0c)) Z0b))
          (fun C fp s H=>(Z0v (i:=0) (show (["_law_k","_law_one"]:List Str).Nodup by decide +kernel) rfl (Or.inl rfl)))
          (fun C fp s H=>(Z0k Z0N Z0c (Z0k Z0G (Z0x h__law_mixed hr (by first | decide | omega) rfl (Z0a (pvF 1) (Z0a (Z0k Z0N Z0c (pvF 0)) Z0b))) (Z0u (r:=Z0U K) Z0w (Z0D (Z0a Z0c (Z0a Z0c Z0b))) (Z0q (Z9m rfl) rfl T.z_min J1H (Z0a (pvF 0) (Z0a Z0c Z0b))) (fun _ _=>rfl)))))) rfl)
    (Z0d (Z3g PassesOwn.never rfl (Z0Q rfl T.z_range (Z0a (Z0k Z0N Z0c (Z0k Z0G (Z0k Z0E (pvF 1) Z0c) Z0c)) Z0b)) (Z0v (i:=3) sc__law_world.nd rfl (Or.inr rfl)) (Z0d (Z0I (i:=4) sc__law_world.nd rfl (Or.inl rfl) (Z0x h__law_mixed hr (by first | decide | omega) rfl (Z0a (Z0x h__law_cell_at hr (by first | decide | omega) rfl (Z0a (pvF 0) (Z0a Z0c Z0b))) (Z0a (pvF 3) Z0b))))
    (Z0d (Z0p (Z1h PySem.F.plainAttrs_list PySem.F.slot_list_append PySem.F.type_list_append Z0z (Z0n (Z0F hr) (pvF 2) Z0g (fun _ _=>rfl)) (Z0a (Z0A (Z0a (Z0u (r:=Z0U K) Z0w (Z0D (Z0a (Z0D (Z0a Z0g Z0b)) (Z0a (Z0D Z0b) (Z0a (Z0D (Z0a Z0g Z0b)) (Z0a (Z0D (Z0a Z0g (Z0a Z0g Z0b))) Z0b))))) (Z0k Z0G (pvF 4) Z0c) (fun _ _=>rfl)) (Z0a (Z0u Z3L Z0g (Z0k Z0G (Z0k Z0E (pvF 4) Z0c) Z0c) (fun _ _=>rfl)) Z0b))) Z0b)))
    (Z0f (Z0p (Z1h PySem.F.plainAttrs_list PySem.F.slot_list_extend PySem.F.type_list_extend Z2A (Z0n (Z0F hr) (pvF 2) Z0g (fun _ _=>rfl)) (Z0a (Z0k Z6K (Z0D (Z0a (pvF 3) Z0b)) (Z0k Z0N Z0c (Z0k Z0G (Z0k Z0E (pvF 4) Z0c) Z0c))) Z0b)))))))
    (Z0d (Z3g PassesOwn.never rfl (Z0Q rfl T.z_range (Z0a (Z0q Z0l rfl T.z_len Z0O (Z0a (Z0n (Z0F hr) (pvF 2) Z0g (fun _ _=>rfl)) Z0b)) Z0b)) (Z0v (i:=5) sc__law_world.nd rfl (Or.inl rfl)) (Z0d (Z0I (i:=6) sc__law_world.nd rfl (Or.inl rfl) (Z0D Z0b))
    (Z0d (Z3g PassesOwn.never rfl (Z0Q rfl T.z_range (Z0a (Z0q Z0l rfl T.z_len Z0O (Z0a (Z0n (Z0F hr) (pvF 2) Z0g (fun _ _=>rfl)) Z0b)) Z0b)) (Z0v (i:=3) sc__law_world.nd rfl (Or.inr rfl)) (Z0d (Z2k rfl sc__law_world.nd (i:=7) rfl rfl (BlockOk.of (N:=["_law_b","_law_word","_law_world_here"]) (nl:=[none,some 3,some 2]) (cl:=[("_law_world_here",s.heap.objs.size+3),("_law_word",s.heap.objs.size+4)]) rfl (by decide +kernel) (by decide +kernel) rfl (sub2 rfl rfl) (nm:=["_law_world_here","_law_word"]) rfl (by decide +kernel) rfl (fun i hi j hj=>by
            match i,hi with
            | 0,_=>cases hj
             | 1,_=>cases hj; exact ⟨_,rfl,rfl,rfl,.inl rfl⟩
             | 2,_=>cases hj; exact ⟨_,rfl,rfl,rfl,.inl rfl⟩
            )) (Z0Q rfl T.z_range (Z0a (Z0q Z0l rfl T.z_len Z0O (Z0a (Z0n (Z0F hr) (pvF 2) Z0g (fun _ _=>rfl)) Z0b)) Z0b))
          (fun C fp s H=>(Z0v (i:=0) (show (["_law_b","_law_word","_law_world_here"]:List Str).Nodup by decide +kernel) rfl (Or.inl rfl)))
          (fun C fp s H=>(Z0m Z0R (Z0u (r:=Z0U K) Z0w (Z0n (Z0F hr) (pvF 2) Z0g (fun _ _=>rfl)) (pvF 0) (fun _ _=>rfl)) (pvF 1) (Z0o _))) (fun C fp s H=>(pvF 0)))
    (Z0f (Z0p (Z1h PySem.F.plainAttrs_list PySem.F.slot_list_append PySem.F.type_list_append Z0z (pvF 6) (Z0a (Z0u (r:=Z0U K) Z0w (pvF 7) (Z0k Z0G (Z0x h__law_mixed hr (by first | decide | omega) rfl (Z0a (Z0k Z0N (Z0x h__law_cell_at hr (by first | decide | omega) rfl (Z0a (pvF 0) (Z0a Z0c Z0b))) (pvF 5)) (Z0a (pvF 3) Z0b))) (Z0q Z0l rfl T.z_len Z0O (Z0a (pvF 7) Z0b))) (fun _ _=>rfl)) Z0b))))))
    (Z0f (Z0p (Z1h PySem.F.plainAttrs_list PySem.F.slot_list_append PySem.F.type_list_append Z0z (Z0n (Z0F hr) (pvF 2) Z0g (fun _ _=>rfl)) (Z0a (Z0k Z2D (pvF 6) (Z0D (Z0a Z1E Z0b))) Z0b)))))))
    (Z0d (Z3g PassesOwn.never rfl (Z0Q rfl T.z_range (Z0a (Z0q Z0l rfl T.z_len Z0O (Z0a (Z0n (Z0F hr) (pvF 2) Z0g (fun _ _=>rfl)) Z0b)) Z0b)) (Z0v (i:=8) sc__law_world.nd rfl (Or.inl rfl)) (Z0d (Z1x (Z0u (r:=Z0U K) Z0w (Z0n (Z0F hr) (pvF 2) Z0g (fun _ _=>rfl)) (Z0u (r:=Z0U K) Z0w (Z0n (Z0F hr) (pvF 2) Z0g (fun _ _=>rfl)) (pvF 8) (fun _ _=>rfl)) (fun _ _=>rfl)) (Z1Z (n:=2) rfl (Z0B (Z0v (i:=9) sc__law_world.nd rfl (Or.inl rfl)) (Z0B (Z0v (i:=10) sc__law_world.nd rfl (Or.inl rfl)) Z1Y))))
    (Z0d (Z0I (i:=11) sc__law_world.nd rfl (Or.inl rfl) (Z0k Z0N (Z0x h__law_cell_at hr (by first | decide | omega) rfl (Z0a (pvF 0) (Z0a (Z0k Z0N Z0c (pvF 8)) Z0b))) (Z0k Z2B Z0c (pvF 8))))
    (Z0f (Z0p (Z1h PySem.F.plainAttrs_list PySem.F.slot_list_append PySem.F.type_list_append Z0z (Z0n (Z0F hr) (pvF 2) Z0g (fun _ _=>rfl)) (Z0a (Z0x h__law_block hr (by first | decide | omega) rfl (Z0a (pvF 2) (Z0a (Z0k Z2D (Z0D (Z0a Z0g Z0b)) (pvF 9)) (Z0a (pvF 10) (Z0a (pvF 11) (Z0a (Z0k Z0N Z0c (Z0k Z0G (pvF 11) Z0c)) Z0b)))))) Z0b)))))))
    (Z0d (Z0I (i:=12) sc__law_world.nd rfl (Or.inl rfl) (Z0x h__law_cell_at hr (by first | decide | omega) rfl (Z0a (pvF 0) (Z0a Z0c Z0b))))
    (Z0d (Z0p (Z1h PySem.F.plainAttrs_list PySem.F.slot_list_append PySem.F.type_list_append Z0z (Z0n (Z0F hr) (pvF 2) Z0g (fun _ _=>rfl)) (Z0a (Z0x h__law_block hr (by first | decide | omega) rfl (Z0a (pvF 2) (Z0a (Z0k Z6K (Z0D (Z0a Z0g Z0b)) (Z0k Z0G (pvF 12) Z0c)) (Z0a (Z0u Z3L Z0g (Z0k Z0G (Z0k Z0E (pvF 12) Z0c) Z0c) (fun _ _=>rfl)) (Z0a (pvF 12) (Z0a (Z0k Z0N Z0c (Z0k Z0G (Z0k Z0E (pvF 12) Z0c) Z0c)) Z0b)))))) Z0b)))
    (Z0d (Z3D (Z0F hr) (pvF 2) Z0g (Z3T rfl (BlockOk.of (N:=["_law_k","_law_script"]) (nl:=[none,some 0]) (cl:=[("_law_script",s.heap.objs.size+1)]) rfl (by decide +kernel) (by decide +kernel) rfl (sub1 rfl) (nm:=["_law_script"]) rfl (by decide +kernel) rfl (fun i hi j hj=>by
            match i,hi with
            | 0,_=>cases hj
             | 1,_=>cases hj; exact ⟨_,rfl,rfl,rfl,.inl rfl⟩
            )) (Z0Q rfl T.z_range (Z0a (Z0k Z0G (pvF 12) Z0c) Z0b))
          (fun C fp s H=>(Z0v (i:=0) (show (["_law_k","_law_script"]:List Str).Nodup by decide +kernel) rfl (Or.inl rfl)))
          (fun C fp s H=>(Z0x h__law_number hr (by first | decide | omega) rfl (Z0a (Z0x h__law_cell_at hr (by first | decide | omega) rfl (Z0a (pvF 1) (Z0a (Z0k Z0N Z0c (pvF 0)) Z0b))) Z0b)))) rfl)
    (Z0f (Z0y (pvF 2)))))))))))),?_⟩
  refine J6M fun uz9 huz9 uz8 huz8 uz7 huz7 uz6 huz6 uz5 huz5 uz4 huz4 uz3 huz3 uz2 huz2 uz1 huz1=>?_
  walk_at "rd"
  have cell:∀ (k:Nat) {H':Hp} {Q':VK} {E':XK},Same H H'→(∀ c,Q' (.int c) H')→Z5h K [.ref a,.int (k:Int)] H' Q' E':=fun k H' Q' E' s h=>⟨a,ns,k,rfl,sq.same s,h⟩
  refine cell 0 (Same.refl _) fun one=>?_
  subst huz1
  walk_at "rd"
  refine New.of fun p H1 h1 s1 e1=>New.of fun p1 H2 h2 s2 e2=>New.of fun p2 H3 h3 s3 e3=>New.of fun p3 H4 h4 s4 e4=>New.of fun p4 H5 h5 s5 e5=>New.of fun p5 H6 h6 s6 e6=>?_
  have hfr:=h1
  have S16:=s2.trans (s3.trans (s4.trans (s5.trans s6)))
  have hp6:=S16 _ _ e1
  refine ⟨hp6,[(.inr "heads",.ref p1),(.inr "owners",.ref p2),(.inr "sites",.ref p3),(.inr "blocks",.ref p4),(.inr "tables",.ref p5)],rfl,by show 5≤15; omega,?_⟩
  subst huz2
  walk_at "rd"
  have e7:upd H6 p (.dK (Z2z [] [(.inr "heads",.ref p1),(.inr "owners",.ref p2),(.inr "sites",.ref p3),(.inr "blocks",.ref p4),(.inr "tables",.ref p5)])) p=some (.dK [(.inr "heads",.ref p1),(.inr "owners",.ref p2),(.inr "sites",.ref p3),(.inr "blocks",.ref p4),(.inr "tables",.ref p5)]):=Z0e
  have np:∀ {a:Addr} {o:HO},H a=some o→a≠p:=fun {a o} e z=>by rw [z,h1] at e; cases e
  have nl:∀ {a:Addr} {xs:List V},H6 a=some (.lst xs)→a≠p:=fun {a xs} e z=>by rw [z,hp6] at e; cases e
  have S7:Same H (upd H6 p (.dK (Z2z [] [(.inr "heads",.ref p1),(.inr "owners",.ref p2),(.inr "sites",.ref p3),(.inr "blocks",.ref p4),(.inr "tables",.ref p5)]))):=fun b o e=>by rw [Z0h (np e)]; exact (s1.trans S16) _ _ e
  have L7:∀ {a:Addr} {xs:List V},H6 a=some (.lst xs)→upd H6 p (.dK (Z2z [] [(.inr "heads",.ref p1),(.inr "owners",.ref p2),(.inr "sites",.ref p3),(.inr "blocks",.ref p4),(.inr "tables",.ref p5)])) a=some (.lst xs):=fun {a xs} e=>by rw [Z0h (nl e)]; exact e
  have f1:=L7 ((s3.trans (s4.trans (s5.trans s6))) _ _ e2)
  have f2:=L7 ((s4.trans (s5.trans s6)) _ _ e3)
  have f3:=L7 ((s5.trans s6) _ _ e4)
  have f4:=L7 (s6 _ _ e5)
  have f5:=L7 e6
  clear L7 nl
  have nd:(p1≠p2∧p1≠p3∧p1≠p4∧p1≠p5)∧(p2≠p3∧p2≠p4∧p2≠p5)∧(p3≠p4∧p3≠p5)∧p4≠p5:=⟨⟨ne0 e2 h3,ne0 (s3 _ _ e2) h4,ne0 ((s3.trans s4) _ _ e2) h5,ne0 ((s3.trans (s4.trans s5)) _ _ e2) h6⟩,⟨ne0 e3 h4,ne0 (s4 _ _ e3) h5,ne0 ((s4.trans s5) _ _ e3) h6⟩,⟨ne0 e4 h5,ne0 (s5 _ _ e4) h6⟩,ne0 e5 h6⟩
  have fr:∀ a∈[p1,p2,p3,p4,p5],H a=none:=by
    intro a ha
    simp only [List.mem_cons,List.not_mem_nil,or_false] at ha
    rcases ha with rfl | rfl | rfl | rfl | rfl
    · exact Z0V s1 h2
    · exact Z0V (s1.trans s2) h3
    · exact Z0V (s1.trans (s2.trans s3)) h4
    · exact Z0V (s1.trans (s2.trans (s3.trans s4))) h5
    · exact Z0V (s1.trans (s2.trans (s3.trans (s4.trans s5)))) h6
  generalize upd H6 p (.dK (Z2z [] [(.inr "heads",.ref p1),(.inr "owners",.ref p2),(.inr "sites",.ref p3),(.inr "blocks",.ref p4),(.inr "tables",.ref p5)]))=H7 at e7 S7 f1 f2 f3 f4 f5 ⊢
  refine ⟨by omega,by omega,fun D hD=>?_⟩
  obtain ⟨nf,hnf,nf1,nf4⟩:∃ n:Nat,(1+one % 4).toNat=n∧1≤n∧n≤4:=⟨_,rfl,by omega,by omega⟩
  rw [hnf]
  refine Z5F none [some (.int one)] (fun i v _=>∃ m:Nat,v=.int m∧2≤m∧m≤4∧(i=0→m≤3)) (fun _ _ _ _ h _=>h) rfl hD (by rw [sizeLine_eq]; omega) (fun i hi H8 K' s8 kk=>?_) (fun vs H8 s8 e8 lvs hR=>?_)
  · walk_at "rd"
    refine ⟨_,_,rfl,fun r hr=>New.of fun l H9 h9 s9 e9=>?_⟩
    by_cases z:i=0
    · subst z
      exact ⟨_,SqL.of e9,.int 2,rfl,_,rfl,_,rfl,by omega,kk _ _ s9 ⟨2+r % 2,rfl,by omega,by omega,fun _=>by omega⟩⟩
    · rw [show (if 1 < (i:Int) then (1:Int) else i)=1 by split <;> omega]
      exact ⟨_,SqL.of e9,.int 3,rfl,_,rfl,_,rfl,by omega,kk _ _ s9 ⟨2+r % 3,rfl,by omega,by omega,fun e=>absurd e z⟩⟩
  obtain ⟨fs,rfl,hfs⟩:=J2e hR
  rw [List.length_map] at lvs
  refine ⟨_,DPut.k (k:=.inr "fields") (s8 _ _ e7) (by rw [sizeLine_eq]; show 5 < _; omega),?_⟩
  have hwb:WB K H (upd H8 p (.dK (putK [(.inr "heads",.ref p1),(.inr "owners",.ref p2),(.inr "sites",.ref p3),(.inr "blocks",.ref p4),(.inr "tables",.ref p5)] (.inr "fields") (.ref D)))) ⟨p,D,p1,p2,p3⟩ p4 p5 ⟨fs,[],[]⟩ 0 [] []:=by
    have ul:∀ {a:Addr} {xs:List V},H8 a=some (.lst xs)→upd H8 p (.dK (putK [(.inr "heads",.ref p1),(.inr "owners",.ref p2),(.inr "sites",.ref p3),(.inr "blocks",.ref p4),(.inr "tables",.ref p5)] (.inr "fields") (.ref D))) a=some (.lst xs):=fun {a xs} e=>by rw [Z0h (fun z=>by rw [z,s8 _ _ e7] at e; cases e)]; exact e
    have ml:∀ x∈[p1,p2,p3,p4,p5],∃ xs,H7 x=some (.lst xs):=by
      intro x hx
      simp only [List.mem_cons,List.not_mem_nil,or_false] at hx
      rcases hx with rfl | rfl | rfl | rfl | rfl
      · exact ⟨_,f1⟩
      · exact ⟨_,f2⟩
      · exact ⟨_,f3⟩
      · exact ⟨_,f4⟩
      · exact ⟨_,f5⟩
    refine ⟨⟨Z0e,ul e8,nd,fun z=>?_,fun z=>?_,fun b o e=>by rw [Z0h (np e)]; exact s8 _ _ (S7 _ _ e),fr⟩,⟨[],ul (s8 _ _ f1),.nil⟩,ul (s8 _ _ f2),ul (s8 _ _ f3),⟨[],ul (s8 _ _ f4),.nil⟩,⟨[],ul (s8 _ _ f5),.nil⟩⟩
    · obtain ⟨xs,e⟩:=ml _ z
      rw [hD] at e; cases e
    · obtain ⟨xs,e⟩:=ml _ z
      rw [e7] at e; cases e
  clear e1 e2 e3 e4 e5 e6 e7 e8 f1 f2 f3 f4 f5 S7 s8 np fr nd hp6 S16 s1 s2 s3 s4 s5 s6 h1 h2 h3 h4 h5 h6 hD hR
  generalize upd H8 p (.dK (putK [(.inr "heads",.ref p1),(.inr "owners",.ref p2),(.inr "sites",.ref p3),(.inr "blocks",.ref p4),(.inr "tables",.ref p5)] (.inr "fields") (.ref D)))=Ha at hwb ⊢
  subst huz3
  walk_at "rd"
  obtain ⟨nw,hnw,nw1,nw3⟩:∃ n:Nat,(1+one / 4 % 3).toNat=n∧1≤n∧n≤3:=⟨_,rfl,by omega,by omega⟩
  refine ⟨by omega,by omega,?_⟩
  rw [hnw]
  refine Z1n (WI1 K H ⟨p,D,p1,p2,p3⟩ p4 p5 fs (fun x y=>[some (.ref a),some (.int one),some (.ref p),x,y,none,none,none,none,none,none,none,none])) ⟨[],[],none,none,hwb,rfl,⟨(fun h hh=>by cases hh),(fun b hb=>by cases hb),(fun w hw=>absurd hw (Nat.not_lt_zero w)),Nat.le_refl _⟩,rfl⟩ (fun i σ Hb hi hI=>?_) (fun σ Hb hI=>?_)
  · obtain ⟨heads,owners,x3,x4,hb,rfl,ok,rfl⟩:=hI
    rw [Int.zero_add]
    walk_at "rd"
    have ld:tyV K "list" (V.ref p1) Hb:=let ⟨_,e,_⟩:=hb.hd; .inl ⟨rfl,_,SqL.of e⟩
    refine cell 1 hb.x.s0 fun c1=>⟨_,_,rfl,fun r hr=>⟨_,hb.wo.get.2.1,ld,New.of fun q1 H1 h1 s1 e1=>New.of fun q2 H2 h2 s2 e2=>New.of fun q3 H3 h3 s3 e3=>New.of fun q4 H4 h4 s4 e4=>New.of fun q5 H5 h5 s5 e5=>⟨_,rfl,?_⟩⟩⟩
    have S5:=s1.trans (s2.trans (s3.trans (s4.trans s5)))
    obtain ⟨px,ps,ax,ex,lp,kp,fx⟩:∃ (px:Addr) (ps:List Kd),atI [V.ref q1,V.ref q2,V.ref q3,V.ref q4] ((r:Int) % 4)=some (.ref px)∧H5 px=some (.lst (ps.map kd))∧ps.length≤2∧(∀ k∈ps,k≠Kd.hx)∧Hb px=none:=by
      rcases (show (r:Int) % 4=0∨(r:Int) % 4=1∨(r:Int) % 4=2∨(r:Int) % 4=3 by omega) with e | e | e | e
      · rw [e]; exact ⟨q1,[.n],rfl,(s2.trans (s3.trans (s4.trans s5))) _ _ e1,by show 1≤2; omega,(fun k hk=>by cases List.mem_singleton.mp hk; exact Kd.noConfusion),h1⟩
      · rw [e]; exact ⟨q2,[],rfl,(s3.trans (s4.trans s5)) _ _ e2,Nat.zero_le _,(fun k hk=>by cases hk),Z0V s1 h2⟩
      · rw [e]; exact ⟨q3,[.h],rfl,(s4.trans s5) _ _ e3,by show 1≤2; omega,(fun k hk=>by cases List.mem_singleton.mp hk; exact Kd.noConfusion),Z0V (s1.trans s2) h3⟩
      · rw [e]; exact ⟨q4,[.n,.h],rfl,s5 _ _ e4,by show 2≤2; omega,(fun k hk=>(List.mem_cons.mp hk).elim (fun e=>by rw [e]; exact Kd.noConfusion) (fun e=>by cases List.mem_singleton.mp e; exact Kd.noConfusion)),Z0V (s1.trans (s2.trans s3)) h4⟩
    obtain ⟨kk,y,nk,ay,ey⟩:=J1W (j:=(r:Int) / 4 % 4) (by omega)
    refine ⟨_,SqL.of e5,_,ax,_,rfl,by decide +kernel,y,ay,?_⟩
    rw [ey]
    refine New.of fun t H6 h6 s6 e6=>?_
    have hb6:=hb.same (S5.trans s6)
    obtain ⟨hv,hv1,hv2⟩:=hb6.hd
    have lhv:=hv2.length
    have npx:px∉Ls ⟨p,D,p1,p2,p3⟩ p4 p5:=hb.nin fx
    have hb7:=hb6.addH (p:=(ps,kk)) hv1 ⟨t,px,rfl,e6,s6 _ _ ex,npx⟩
    have lhh:hv.length=heads.length:=lhv
    refine ⟨p1,rfl,hv,hv1,by omega,?_⟩
    generalize upd H6 p1 (.lst (hv++[V.ref t]))=H7 at hb7 ⊢
    refine ⟨_,hb7.wo.get.2.2.1,.inl ⟨rfl,_,SqL.of hb7.ow⟩,New.of fun l8 H8 h8 s8 e8=>⟨_,rfl,_,e8,by omega,by omega,by show 1 * _≤_; omega,fun l9 h9=>?_⟩⟩
    obtain ⟨rn,hrn,rn1,rn3⟩:∃ n:Nat,(1+(r:Int) / 16 % 3).toNat=n∧1≤n∧n≤3:=⟨_,rfl,by omega,by omega⟩
    rw [hrn]
    have er:(List.replicate rn [V.int heads.length]).flatten=(List.replicate rn heads.length).map fun (m:Nat)=>V.int m:=by rw [List.flatten_replicate_singleton,List.map_replicate]
    rw [er]
    have s9:=Z0i h9 (.lst ((List.replicate rn heads.length).map fun (m:Nat)=>V.int m))
    have e9:upd H8 l9 (.lst ((List.replicate rn heads.length).map fun (m:Nat)=>V.int m)) l9=some (.lst ((List.replicate rn heads.length).map fun (m:Nat)=>V.int m)):=Z0e
    generalize upd H8 l9 (.lst ((List.replicate rn heads.length).map fun (m:Nat)=>V.int m))=H9 at s9 e9 ⊢
    have hb9:=hb7.same (s8.trans s9)
    have lol:=ok.ol
    exact ⟨p2,rfl,_,hb9.ow,_,e9,by rw [List.length_map,List.length_map,List.length_replicate]; show owners.length+_≤_; omega,heads++[(ps,kk)],_,_,_,hb9.addO (List.replicate rn heads.length),by rw [List.length_append]; rfl,ok.add ⟨lp,kp,nk⟩ rn1 rn3,rfl⟩
  obtain ⟨heads,owners,x3,x4,hb,hl,ok,rfl⟩:=hI
  clear hwb
  subst huz4
  walk_at "rd"
  have lhn:heads.length≤3:=by omega
  have lon:=ok.ol
  have lon9:owners.length≤9:=by omega
  refine ⟨_,hb.wo.get.1,D,rfl,_,.inl (SqL.of hb.x.fl),by omega,by rw [List.length_map]; show (fs.length:Int) < _; omega,?_⟩
  rw [Int.toNat_natCast,List.length_map]
  refine Z1n (WI2 K H ⟨p,D,p1,p2,p3⟩ p4 p5 ⟨fs,heads,owners⟩ (fun x3 x5 x6 x7=>[some (.ref a),some (.int one),some (.ref p),x3,x4,x5,x6,x7,none,none,none,none,none])) ⟨[],x3,none,none,none,hb,rfl,(fun t ht=>by cases ht),rfl⟩ (fun i σ Hc hi hI=>?_) (fun σ Hc hI=>?_)
  · obtain ⟨tabs,y3,y5,y6,y7,hc,rfl,tok,rfl⟩:=hI
    rw [Int.zero_add]
    walk_at "rd"
    refine New.of fun ro Hd hd sd ed=>?_
    have hb1:=hc.same sd
    obtain ⟨hv,v1,v2⟩:=hb1.hd
    have lhv:hv.length=heads.length:=v2.length
    refine ⟨_,hb1.wo.get.2.1,p1,rfl,_,.inl (SqL.of v1),by omega,by omega,?_⟩
    rw [Int.toNat_natCast,lhv]
    refine Z1n (WI3 Hd ro owners (fun x3 x7=>[some (.ref a),some (.int one),some (.ref p),x3,x4,some (.int tabs.length),some (.ref ro),x7,none,none,none,none,none])) ⟨[],_,_,.refl,ed,rfl,(fun w hw=>absurd hw (Nat.not_lt_zero w)),rfl⟩ (fun j σ He hj hJ=>?_) (fun σ He hJ=>?_)
    · obtain ⟨xs,z3,z7,ce,ee,rfl,hx,rfl⟩:=hJ
      rw [Int.zero_add]
      have Se:Same Hc He:=Ch.same ((Ch.of sd).less ce fun x hx=>.inr (by cases List.mem_singleton.mp hx; exact hd))
      have hbe:=hc.same Se
      walk_at "rd"
      refine ⟨_,hbe.wo.get.2.2.1,p2,rfl,_,.inl (SqL.of hbe.ow),by omega,by rw [List.length_map]; show (owners.length:Int) < _; omega,fun D2 hD2=>?_⟩
      rw [Int.toNat_natCast,List.length_map]
      refine Z2V none [some (.int xs.length),some (.ref p)] (fun i=>decide (owners[i]?=some xs.length)) rfl hD2 (by rw [sizeLine_eq]; show owners.length≤_; omega) (fun k hk Hf K' sf kk=>?_) (fun Hf sf ef=>?_)
      · have hk':k < owners.length:=hk
        walk_at "rd"
        have hbf:=hbe.same sf
        refine ⟨_,hbf.wo.get.2.2.1,p2,rfl,_,SqL.of hbf.ow,_,Z3h (List.getElem?_eq_getElem hk'),?_⟩
        refine ⟨rfl,?_⟩
        have:=kk _ (Same.refl _)
        rw [List.getElem?_eq_getElem hk'] at this
        have e2:decide (some owners[k]=some xs.length)=decide (V.int (owners[k]:Int)=V.int (xs.length:Int)):=decide_eq_decide.mpr ⟨fun z=>by rw [Option.some.inj z],fun z=>by injection z with z; rw [Int.ofNat.inj z]⟩
        rw [e2] at this
        exact this
      have ef:Hf D2=some (.lst (((List.range owners.length).filter fun i=>decide (owners[i]?=some xs.length)).map fun i:Nat=>V.int i)):=ef
      obtain ⟨bw,hbw⟩:=ok.oa xs.length hj
      have mb:bw∈(List.range owners.length).filter (fun i=>decide (owners[i]?=some xs.length)):=List.mem_filter.mpr ⟨List.mem_range.mpr (List.getElem?_eq_some_iff.mp hbw).1,decide_eq_true hbw⟩
      generalize hks:(List.range owners.length).filter (fun i=>decide (owners[i]?=some xs.length))=ks at ef mb
      have ink:∀ i∈ks,owners[i]?=some xs.length:=fun i hi=>by rw [← hks] at hi; exact of_decide_eq_true (List.mem_filter.mp hi).2
      have l0:0 < ks.length:=List.length_pos_of_mem mb
      have ro1:=sf _ _ ee
      refine ⟨.inl ⟨rfl,_,SqL.of ro1⟩,cell 2 ((hbe.same sf).x.s0) fun c2=>⟨_,rfl,_,_,rfl,fun r hr=>⟨_,rfl,_,.inl (SqL.of ef),_,rfl,by rw [List.length_map]; omega,_,rfl,?_⟩⟩⟩
      rw [List.length_map]
      have hjj:(r:Int) % (ks.length:Int)=((r % ks.length:Nat):Int):=by rw [Int.natCast_emod]
      have jl:r % ks.length < ks.length:=Nat.mod_lt _ l0
      rw [hjj]
      refine ⟨_,SqL.of ef,_,Z3h (List.getElem?_eq_getElem jl),_,ro1,by rw [List.length_map]; omega,xs++[ks[r % ks.length]],_,_,(ce.trans (.of sf)).trans (.put _ ro1 List.mem_cons_self),by rw [Z0e,List.map_append]; rfl,by rw [List.length_append]; rfl,fun w hw=>?_,rfl⟩
      rcases Nat.lt_or_ge w xs.length with e | e
      · obtain ⟨b,b1,b2⟩:=hx w e
        exact ⟨b,by rw [List.getElem?_append_left e]; exact b1,b2⟩
      · have e:w=xs.length:=by omega
        subst e
        exact ⟨_,by rw [List.getElem?_append_right (Nat.le_refl _),Nat.sub_self]; rfl,ink _ (List.getElem_mem _)⟩
    · obtain ⟨xs,z3,z7,ce,ee,lx,hx,rfl⟩:=hJ
      have Se:Same Hc He:=Ch.same ((Ch.of sd).less ce fun x hx=>.inr (by cases List.mem_singleton.mp hx; exact hd))
      have hbe:=hc.same Se
      walk_at "rd"
      obtain ⟨ts,t1,t2⟩:=hbe.tt
      have lts:ts.length=tabs.length:=t2.length
      have lfi:tabs.length < fs.length:=hi
      refine ⟨_,hbe.get.2,.inl ⟨rfl,_,SqL.of t1⟩,New.of fun l1 H1 h1 s1 e1=>⟨_,s1 _ _ ee,_,e1,by rw [List.length_map,lx]; show _+1≤_; omega,New.of fun l2 H2 h2 s2 e2=>⟨p5,rfl,_,(s1.trans s2) _ _ t1,by omega,tabs++[xs.map some++[none]],_,_,_,_,(hbe.same (s1.trans s2)).addT ((s1.trans s2) _ _ t1) ⟨l2,rfl,?_,(hbe.same s1).nin h2⟩,by rw [List.length_append]; rfl,fun t ht=>?_,rfl⟩⟩⟩
      · rw [e2,List.map_append,List.map_map]; rfl
      · rcases List.mem_append.mp ht with e | e
        · exact tok t e
        · cases List.mem_singleton.mp e
          refine ⟨by rw [List.length_append,List.length_map,lx]; rfl,fun w hw=>?_,fun b hb=>?_⟩
          rotate_left
          · rcases List.mem_append.mp hb with e | e
            · obtain ⟨b',m1,m2⟩:=List.mem_map.mp e
              cases m2
              obtain ⟨w,hw⟩:=List.mem_iff_getElem?.mp m1
              obtain ⟨b2,y1,y2⟩:=hx w (by rw [← lx]; exact (List.getElem?_eq_some_iff.mp hw).1)
              rw [hw] at y1
              cases y1
              exact (List.getElem?_eq_some_iff.mp y2).1
            · cases List.mem_singleton.mp e
          obtain ⟨b,b1,b2⟩:=hx w hw
          exact ⟨b,by rw [List.getElem?_append_left (by rw [List.length_map,lx]; exact hw),List.getElem?_map,b1]; rfl,b2⟩
  obtain ⟨tabs,y3,y5,y6,y7,hc,lt,tok,rfl⟩:=hI
  clear hb
  subst huz5
  walk_at "rd"
  have wf:WF ⟨fs,heads,owners⟩:=by
    have h0:fs[0]?=some fs[0]:=List.getElem?_eq_getElem (by omega)
    refine ⟨⟨_,h0,(hfs 0 _ h0).2.2 rfl⟩,fun m hm=>?_,by show fs.length≤4; omega,ok.ob,⟨lon9,?_⟩,⟨lhn,by show 0 < heads.length; omega⟩,ok.hk⟩
    · obtain ⟨j,hj⟩:=List.mem_iff_getElem?.mp hm
      exact ⟨(hfs j m hj).1,(hfs j m hj).2.1⟩
    · obtain ⟨b,hb⟩:=ok.oa 0 (by omega)
      exact Nat.lt_of_le_of_lt (Nat.zero_le _) (List.getElem?_eq_some_iff.mp hb).1
  generalize hW:(⟨fs,heads,owners⟩:Wo)=W at hc wf
  have wfs:W.fields=fs:=by rw [← hW]
  have tok':∀ t∈tabs,J0i W.heads W.owners t:=by rw [← hW]; exact tok
  have lt:tabs.length=W.fields.length:=by rw [← hW]; exact lt
  have whe:W.heads=heads:=by rw [← hW]
  have wow:W.owners=owners:=by rw [← hW]
  have lwo:W.owners.length≤9:=wf.on.1
  refine ⟨_,hc.wo.get.2.2.1,p2,rfl,_,.inl (SqL.of hc.ow),by omega,by rw [List.length_map]; omega,?_⟩
  rw [Int.toNat_natCast,List.length_map]
  refine Z1n (WI4 K H ⟨p,D,p1,p2,p3⟩ p4 p5 W tabs (fun x8 x9 x10 x11=>[some (.ref a),some (.int one),some (.ref p),y3,x4,y5,y6,y7,x8,x9,x10,x11,none])) ⟨[],[],none,none,none,none,hc,Nat.le_refl _,rfl,(fun b B w ps tk h=>by simp at h),(fun B hB=>by cases hB),rfl⟩ (fun i σ Hd hi hI=>?_) (fun σ Hd hI=>?_)
  · obtain ⟨ss,bks,x8,x9,x10,x11,hd,lss,rfl,bo,bs,rfl⟩:=hI
    rw [Int.zero_add]
    have hwo:W.owners[bks.length]?=some W.owners[bks.length]:=List.getElem?_eq_getElem hi
    have hwl:=wf.ow _ (List.getElem_mem hi)
    generalize W.owners[bks.length]=wd at hwo hwl
    obtain ⟨hv,v1,v2⟩:=hd.hd
    have hhd:W.heads[wd]?=some W.heads[wd]:=List.getElem?_eq_getElem hwl
    have hk:=wf.hk _ (List.getElem_mem hwl)
    generalize W.heads[wd]=hh at hhd hk
    obtain ⟨ps,tk⟩:=hh
    have hk1:ps.length≤2:=hk.1
    obtain ⟨v,ev,t,pl,rfl,ht,hpl,npl⟩:=Pd.at v2 hhd
    walk_at "rd"
    refine ⟨_,hd.wo.get.2.1,_,hd.wo.get.2.2.1,p2,rfl,_,SqL.of hd.ow,_,Z3h hwo,p1,rfl,_,rfl,_,SqL.of v1,_,Z0P ev,?_⟩
    refine ⟨t,rfl,_,SqT.of ht,rfl,_,_,rfl,_,_,rfl,rfl,a,ns,8+bks.length,by rw [Int.natCast_add]; rfl,sq.same hd.x.s0,fun c=>⟨c,rfl,?_⟩⟩
    obtain ⟨bv,b1,b2⟩:=hd.bb
    have lbv:bv.length=bks.length:=b2.length
    refine ⟨_,hd.get.1,.inl ⟨rfl,_,SqL.of b1⟩,New.of fun l1 H1 h1 s1 e1=>⟨pl,rfl,_,e1,_,s1 _ _ hpl,by rw [List.length_map]; show 1+_≤_; omega,New.of fun l2 H2 h2 s2 e2=>?_⟩⟩
    obtain ⟨m,hm,hm8⟩:∃ m:Nat,1+(c+31 * (bks.length:Int)) % 5=m∧m≤8:=⟨(1+(c+31 * (bks.length:Int)) % 5).toNat,by omega,by omega⟩
    rw [hm]
    have hd2:=hd.same (s1.trans s2)
    have n2:=(hd.same s1).nin h2
    refine ⟨⟨p,D,p1,p2,p3⟩,W,ss,.h::ps,tk,l2,_,m,rfl,hd2.wo,wf,e2,(fun z=>n2 (by rw [z]; exact List.mem_cons_of_mem _ (List.mem_cons_of_mem _ List.mem_cons_self))),(fun k hk2=>(List.mem_cons.mp hk2).elim (fun e=>by rw [e]; exact Kd.noConfusion) (hk.2.1 k)),by show _+1≤_; omega,hk.2.2,hm8,fun v x rows H3 k3 t3 e3 lx3 bk3 sf3 l3=>?_⟩
    have hd3:=hd2.ran k3 t3 e3
    have b3:H3 p4=some (.lst bv):=k3 _ _ hd.x.nd.2.2.1.1.symm ((s1.trans s2) _ _ b1)
    refine ⟨p4,rfl,bv,b3,by omega,ss++x,_,_,_,_,_,hd3.addB b3 bk3,by rw [List.length_append]; omega,by rw [List.length_append]; rfl,fun b B w ps' tk' e4 e5 e6=>?_,fun B hB=>?_,rfl⟩
    · rcases Nat.lt_or_ge b bks.length with e | e
      · rw [List.getElem?_append_left e] at e4
        obtain ⟨u1,u2⟩:=bo b B w ps' tk' e4 e5 e6
        exact ⟨u1,u2.mono x⟩
      · have e:b=bks.length:=by
          have:=(List.getElem?_eq_some_iff.mp e4).1
          rw [List.length_append] at this
          have:b < bks.length+1:=this
          omega
        subst e
        rw [List.getElem?_append_right (Nat.le_refl _),Nat.sub_self] at e4
        cases e4
        rw [hwo] at e5
        cases e5
        rw [hhd] at e6
        cases e6
        exact ⟨by show ps.length+1+2=_; omega,sf3⟩
    · rcases List.mem_append.mp hB with e | e
      · exact bs B e
      · cases List.mem_singleton.mp e
        exact ⟨by show ps.length+1≤6; omega,by show ps.length+1+2≤6; omega,l3,fun q hq=>(sf3.small q hq).mono (by rw [List.length_append]; omega) (by rw [List.length_append,List.length_map]; show ps.length+1+2≤6; omega)⟩
  obtain ⟨ss,bks,x8,x9,x10,x11,hd,lss,lbk,bo,bs,rfl⟩:=hI
  clear hc
  subst huz6
  walk_at "rd"
  refine cell 3 hd.x.s0 fun c3=>?_
  subst huz7
  walk_at "rd"
  obtain ⟨bv,b1,b2⟩:=hd.bb
  have lbv:bv.length=bks.length:=b2.length
  obtain ⟨nm,hnm,nm3⟩:∃ n:Nat,(c3 % 4).toNat=n∧n≤3:=⟨_,rfl,by omega⟩
  obtain ⟨m,hm,hm8⟩:∃ m:Nat,2+c3 / 12 % 7=m∧m≤8:=⟨(2+c3 / 12 % 7).toNat,by omega,by omega⟩
  refine ⟨_,hd.get.1,.inl ⟨rfl,_,SqL.of b1⟩,New.of fun l1 H1 h1 s1 e1=>⟨_,e1,by omega,by omega,by show 1 * _≤_; omega,fun l2 h2=>⟨by decide +kernel,?_⟩⟩⟩
  obtain ⟨kk,y,nk,ay,ey⟩:=J1K (j:=c3 / 4 % 3) (by omega)
  refine ⟨y,ay,?_⟩
  rw [ey,hnm,hm]
  have er:(List.replicate nm [V.str (Str.ofString "n")]).flatten=(List.replicate nm Kd.n).map kd:=by rw [List.flatten_replicate_singleton,List.map_replicate]; rfl
  rw [er]
  have s2:=Z0i h2 (.lst ((List.replicate nm Kd.n).map kd))
  have e2:upd H1 l2 (.lst ((List.replicate nm Kd.n).map kd)) l2=some (.lst ((List.replicate nm Kd.n).map kd)):=Z0e
  generalize upd H1 l2 (.lst ((List.replicate nm Kd.n).map kd))=H2 at s2 e2 ⊢
  have hd2:=hd.same (s1.trans s2)
  have n2:=(hd.same s1).nin h2
  refine ⟨⟨p,D,p1,p2,p3⟩,W,ss,List.replicate nm .n,kk,l2,_,m,rfl,hd2.wo,wf,e2,(fun z=>n2 (by rw [z]; exact List.mem_cons_of_mem _ (List.mem_cons_of_mem _ List.mem_cons_self))),(fun k hk2=>by rw [List.eq_of_mem_replicate hk2]; exact Kd.noConfusion),by rw [List.length_replicate]; exact nm3,nk,hm8,fun v x rows H3 k3 t3 e3 lx3 bk3 sf3 l3=>?_⟩
  have hd3:=hd2.ran k3 t3 e3
  have b3:H3 p4=some (.lst bv):=k3 _ _ hd.x.nd.2.2.1.1.symm ((s1.trans s2) _ _ b1)
  refine ⟨p4,rfl,bv,b3,by omega,?_⟩
  have hd4:=hd3.addB b3 bk3
  rw [List.map_replicate] at sf3
  rw [List.length_replicate] at hd4
  generalize upd H3 p4 (.lst (bv++[v]))=H4 at hd4 ⊢
  subst huz8
  walk_at "rd"
  refine ⟨by omega,by omega,fun D5 h5=>?_⟩
  rw [hnm]
  refine Z5F none [some (.ref a)] (fun i v _=>∃ m:Int,v=.int m∧Bd m) (fun _ _ _ _ h _=>h) rfl h5 (by rw [sizeLine_eq]; omega) (fun i hi H5 K' s5 kk=>?_) (fun vs H5 s5 e5 lvs hR=>?_)
  · walk_at "rd"
    refine ⟨a,ns,4+i,by rw [Int.natCast_add]; rfl,sq.same (hd4.same s5).x.s0,fun c=>⟨c,rfl,fun r hr=>kk _ _ (Same.refl _) ⟨r,rfl,hr⟩⟩⟩
  obtain ⟨nums,rfl,hnums⟩:=Z9g hR
  rw [List.length_map] at lvs
  have hd5:=hd4.same s5
  refine ⟨_,DPut.k (k:=.inr "numbers") hd5.x.d (by rw [sizeLine_eq]; show 6 < _; omega),?_⟩
  subst huz9
  walk_at "rd"
  obtain ⟨bs5,bb1,bb2⟩:=hd5.bb
  obtain ⟨ts5,tt1,tt2⟩:=hd5.tt
  have tt:=Z2l (.dK (putK [(.inr "heads",.ref p1),(.inr "owners",.ref p2),(.inr "sites",.ref p3),(.inr "blocks",.ref p4),(.inr "tables",.ref p5),(.inr "fields",.ref D)] (.inr "numbers") (.ref D5))) hd5.x.d J0T
  have ul:∀ {a:Addr} {xs:List V},H5 a=some (.lst xs)→upd H5 p (.dK (putK [(.inr "heads",.ref p1),(.inr "owners",.ref p2),(.inr "sites",.ref p3),(.inr "blocks",.ref p4),(.inr "tables",.ref p5),(.inr "fields",.ref D)] (.inr "numbers") (.ref D5))) a=some (.lst xs):=fun {a xs} e=>by rw [Z0h (fun z=>by rw [z,hd5.x.d] at e; cases e)]; exact e
  refine q p p4 p5 D5 W (ss++x) (bks++[⟨nm,nm+2,rows⟩]) tabs nums _ (fun b o e=>?_) ⟨⟨_,Z0e,rfl,rfl,rfl⟩,⟨bs5,ul bb1,Z5M bb2 tt⟩,⟨ts5,ul tt1,Paired.imp' (fun _ _ ⟨ta,u1,u2,_⟩=>⟨ta,u1,ul u2⟩) tt2⟩,ul e5⟩ ⟨wf,⟨lt,tok'⟩,fun b B w ps' tk' e4 e5 e6=>?_,⟨bks,⟨nm,nm+2,rows⟩,kk,rfl,lbk,by rw [lvs],by rw [lvs]; exact sf3⟩,fun B hB=>?_,⟨hnums,by omega⟩⟩
  · rw [Z0h (fun z=>by rw [z,hfr] at e; cases e)]; exact hd5.x.s0 _ _ e
  · rw [List.getElem?_append_left (by rw [lbk]; exact (List.getElem?_eq_some_iff.mp e5).1)] at e4
    obtain ⟨u1,u2⟩:=bo b B w ps' tk' e4 e5 e6
    exact ⟨u1,u2.mono x⟩
  · rcases List.mem_append.mp hB with e | e
    · exact bs B e
    · cases List.mem_singleton.mp e
      exact ⟨by show nm≤6; omega,by show nm+2≤6; omega,l3,fun q hq=>(sf3.small q hq).mono (by rw [List.length_append]; omega) (by rw [List.length_append,List.length_replicate]; show nm+2≤6; omega)⟩
end
end K65
end
section
set_option format.width 300
namespace K65
open PySem L2 MM
open Mach (AV AFr Row Sg Blk MS PL Mem getP updM seen Z0K Bd)
seal L2.PE L2.PA L2.PT L2.PS L2.PSs L2.PG L2.PGs L2.PI L2.PW
open MT (Kd fk Wo VT Seg Sf)
noncomputable def AskR (K:W.Frag) (H0 H:Hp) (s:MS) (v:V):Nat→Prop
 | 0=>∃ l ss,v=.ref l∧H0 l=none∧H l=some (.lst ss)∧Paired (FrV K H) ss s.frames.reverse
 | 1=>∃ l ms,v=.ref l∧H0 l=none∧H l=some (.lst ms)∧Paired (ThV K H) ms s.made
 | 2=>EndAt K H v s.ended
 | 3=>v=.int s.calls
 | 4=>v=.int s.looks
 | 5=>v=.int s.hits
 | 6=>v=.int s.rows
 | _=>False
section
variable (CM CP:Addr) (K:W.Frag)
inductive Z5B (vs:List V) (H:Hp) (Q:VK):Prop
 | mk (ex:Addr→Prop) (o:MO) (P:Mach.Prog) (s:MS) (a1:vs=[.ref o.x]) (a2:MAt CM CP K ex o P s H) (a3:∀ l ms,H l=none→Paired (ThV K H) ms s.made→Q (.ref l) (upd H l (.lst ms))):Z5B vs H Q
def Z6a:Sp:=fun vs H Q _=>Z5B CM CP K vs H Q
inductive Z9n (vs:List V) (H:Hp) (Q:VK):Prop
 | mk (ex:Addr→Prop) (o:MO) (P:Mach.Prog) (s:MS) (k:Nat) (a1:vs=[.ref o.x,.int k]) (a2:MAt CM CP K ex o P s H) (a3:k < 7) (a4:∀ v H',Same H H'→AskR K H H' s v k→Q v H'):Z9n vs H Q
def Z8l:Sp:=fun vs H Q _=>Z9n CM CP K vs H Q
end
section
variable {C_Places C_Machine D_ROW_SIGNS:Addr} {P:Program} {w:World} {K:W.Frag} {mg:Str→Option Value} {base:Heap}
theorem Z8s (T:Txt P w K mg C_Places C_Machine D_ROW_SIGNS):HasM P w K mg base 1 C_Machine "things" ["self"] (Z6a C_Machine C_Places K):=by
 refine HasM.of T.m_Machine_things Z3C (fun _ _ _ _ _ _ us hl=>el1 us hl fun _=>rfl) (fun vs H Q E h=>?_) (fun f cdv A outer s H vs Q E hr h=>?_)
 ·obtain ⟨ex,o,P,s,rfl,_⟩:=h
  rfl
 obtain ⟨ex,o,P',s',rfl,M,q⟩:=h
 refine ⟨_,(Z0f (Z0y (Z1r Z1X rfl T.z_list Z3X (Z0a (Z0H (pvF 0) rfl) Z0b)))),?_⟩
 walk_at "rd"
 obtain ⟨e0,hx,he0⟩:=M.ins
 obtain ⟨ms,m1,m2⟩:=M.mad
 exact ⟨C_Machine,o.dx,_,hx,T.Machine.cl,T.n_Machine_made,_,Z2O,o.md,rfl,ms,.inl (SqL.of m1),fun l hl=>q l ms hl m2⟩
theorem J2j (T:Txt P w K mg C_Places C_Machine D_ROW_SIGNS) (h_Machine_answer:HasM P w K mg base 1 C_Machine "answer" ["self"] (Z5U C_Machine C_Places K)) (h_Machine_frames:HasM P w K mg base 1 C_Machine "frames" ["self"] (Z5O C_Machine C_Places K)) (h_Machine_things:HasM P w K mg base 1 C_Machine "things" ["self"] (Z6a C_Machine C_Places K)) (h_Machine_calls:HasM P w K mg base 1 C_Machine "calls" ["self"] (Z3r C_Machine C_Places K (fun s=>s.calls))) (h_Machine_looks:HasM P w K mg base 1 C_Machine "looks" ["self"] (Z3r C_Machine C_Places K (fun s=>s.looks))) (h_Machine_hits:HasM P w K mg base 1 C_Machine "hits" ["self"] (Z3r C_Machine C_Places K (fun s=>s.hits))) (h_Machine_rows_done:HasM P w K mg base 1 C_Machine "rows_done" ["self"] (Z3r C_Machine C_Places K (fun s=>s.rows))):Has P w K mg base 2 "_law_asked" ["_law_machine","_law_k"] (Z8l C_Machine C_Places K):=by
 refine Has.of T.f__law_asked Z5a (fun _ _ _ _ _ _ us hl=>el2 us hl fun _ _=>rfl) (fun vs H Q E h=>?_) (fun f cdv A outer s H vs Q E hr h=>?_)
 ·obtain ⟨ex,o,P,s,k,rfl,_⟩:=h
  rfl
 obtain ⟨ex,o,P',s',k,rfl,M,hk,q⟩:=h
 refine ⟨_,(Z0d (Z0L (Z0m Z4B (pvF 1) Z0c (Z0o _)) (Z0f (Z0y (Z2S (Z0m Z0R (pvF 1) Z0c (Z0o _)) (Z1q (pvF 0) T.Machine.cl h_Machine_things hr (by first | decide | omega)) (Z1q (pvF 0) T.Machine.cl h_Machine_frames hr (by first | decide | omega))))) Z0C)
  (Z0d (Z0L (Z0m Z4B (pvF 1) Z0c (Z0o _)) (Z0f (Z0y (Z2S (Z0m Z0R (pvF 1) Z0c (Z0o _)) (Z1q (pvF 0) T.Machine.cl h_Machine_calls hr (by first | decide | omega)) (Z1q (pvF 0) T.Machine.cl h_Machine_answer hr (by first | decide | omega))))) Z0C)
  (Z0d (Z0L (Z0m Z4B (pvF 1) Z0c (Z0o _)) (Z0f (Z0y (Z2S (Z0m Z0R (pvF 1) Z0c (Z0o _)) (Z1q (pvF 0) T.Machine.cl h_Machine_hits hr (by first | decide | omega)) (Z1q (pvF 0) T.Machine.cl h_Machine_looks hr (by first | decide | omega))))) Z0C)
  (Z0f (Z0y (Z1q (pvF 0) T.Machine.cl h_Machine_rows_done hr (by first | decide | omega))))))),?_⟩
 walk_at "rd"
 obtain ⟨e,hx,he⟩:=M.ins
 have num:∀ (g:MS→Nat),AskR K H H s' (.int (g s')) k→Z3r C_Machine C_Places K g [.ref o.x] H Q E0:=fun g h=>⟨ex,o,P',s',rfl,M,q _ _ (Same.refl _) h⟩
 refine ite2 (fun _=>ite2 (fun z=>⟨o.dx,_,hx,rfl,?_⟩) (fun z=>⟨o.dx,_,hx,rfl,?_⟩)) (fun _=>ite2 (fun _=>ite2 (fun z=>⟨o.dx,_,hx,rfl,?_⟩) (fun z=>⟨o.dx,_,hx,rfl,?_⟩)) (fun _=>ite2 (fun _=>ite2 (fun z=>⟨o.dx,_,hx,rfl,?_⟩) (fun z=>⟨o.dx,_,hx,rfl,?_⟩)) (fun z=>⟨o.dx,_,hx,rfl,?_⟩)))
 ·have:k=1:=by omega
  subst this
  exact ⟨ex,o,P',s',rfl,M,fun l ms hl hp=>q _ _ (Z0i hl _) ⟨l,ms,rfl,hl,Z0e,Pd.imp (fun _ _ h=>h.t (Same.t (Z0i hl _))) hp⟩⟩
 ·have:k=0:=by omega
  subst this
  exact ⟨ex,o,P',s',rfl,M,fun l ms hl hp=>q _ _ (Z0i hl _) ⟨l,ms,rfl,hl,Z0e,Pd.imp (fun _ _ h=>h.t (Same.t (Z0i hl _))) hp⟩⟩
 ·have:k=3:=by omega
  subst this
  exact num _ rfl
 ·have:k=2:=by omega
  subst this
  exact ⟨ex,o,P',s',rfl,M,fun e he=>q _ _ (Same.refl _) he⟩
 ·have:k=5:=by omega
  subst this
  exact num _ rfl
 ·have:k=4:=by omega
  subst this
  exact num _ rfl
 ·have:k=6:=by omega
  subst this
  exact num _ rfl
end
end K65
end
section
set_option format.width 300
namespace K65
open PySem L2 MM
open Mach (AV AFr Row Sg Blk MS PL Mem getP updM seen Z0K Bd)
seal L2.PE L2.PA L2.PT L2.PS L2.PSs L2.PG L2.PGs L2.PI L2.PW
open MT (Kd fk Wo VT Seg Sf)
section
variable (CM CP:Addr) (K:W.Frag)
noncomputable def J3R (H0 H:Hp) (s:MS) (l f t:Addr):Prop:=H0 l=none∧H0 f=none∧H0 t=none∧f≠t∧f≠l∧t≠l∧∃ e ss ms,H l=some (.lst [.ref f,.ref t,e,.int s.calls,.int s.looks,.int s.hits,.int s.rows])∧EndAt K H e s.ended∧H f=some (.lst ss)∧Paired (FrV K H) ss s.frames.reverse∧H t=some (.lst ms)∧Paired (ThV K H) ms s.made
inductive Z8p (vs:List V) (H:Hp) (Q:VK):Prop
 | mk (ex:Addr→Prop) (o:MO) (P:Mach.Prog) (s:MS) (b:Int) (a1:vs=[.ref o.x,.int b]) (a2:MAt CM CP K ex o P s H) (a3:∀ l f t H',Same H H'→J3R K H H' s l f t→Q (.ref l) H'):Z8p vs H Q
def Z6D:Sp:=fun vs H Q _=>Z8p CM CP K vs H Q
end
theorem AskR.same {K:W.Frag} {H0 H H':Hp} {s:MS} {v:V} {k:Nat} (h:AskR K H0 H s v k) (t:SameT H H') (kk:∀ l xs,H0 l=none→H l=some (.lst xs)→H' l=some (.lst xs)):AskR K H0 H' s v k:=by
 match k,h with
 | 0,⟨l,ss,a,b,c,d⟩=>exact ⟨l,ss,a,b,kk _ _ b c,Pd.imp (fun _ _ h=>h.t t) d⟩
 | 1,⟨l,ss,a,b,c,d⟩=>exact ⟨l,ss,a,b,kk _ _ b c,Pd.imp (fun _ _ h=>h.t t) d⟩
 | 2,h=>exact EndAt.t h t
 | 3,h=>exact h
 | 4,h=>exact h
 | 5,h=>exact h
 | 6,h=>exact h
theorem J5V (a m:Nat) (ha:a < 7) (hm:m < 6) (k:Nat) (hk:k < 7):∃ t,t < 7∧(a+t * (1+m)) % 7=k:=by
 have:∀ a,a < 7→∀ m,m < 6→∀ k,k < 7→((List.range 7).any fun t=>(a+t * (1+m)) % 7 == k)=true:=by decide
 obtain ⟨t,h1,h2⟩:=List.any_eq_true.mp (this a ha m hm k hk)
 exact ⟨t,List.mem_range.mp h1,eq_of_beq h2⟩
noncomputable def SEI (K:W.Frag) (H0:Hp) (D:Addr) (s:MS) (kf:Nat→Nat) (σ0:Option V→Option V→St) (i:Nat) (σ:St) (H:Hp):Prop:=∃ kvs x y,Same H0 H∧H D=some (.dK kvs)∧kvs.length≤i∧(∀ j,j < i→∃ v,valV kvs (.inl (kf j:Int))=some v)∧(∀ (k:Nat) v,k < 7→valV kvs (.inl (k:Int))=some v→AskR K H0 H s v k)∧(∀ u v,valV kvs (.inl 0)=some u→valV kvs (.inl 1)=some v→u≠v)∧σ=σ0 x y
section
variable {C_Places C_Machine D_ROW_SIGNS:Addr} {P:Program} {w:World} {K:W.Frag} {mg:Str→Option Value} {base:Heap}
theorem J2i (T:Txt P w K mg C_Places C_Machine D_ROW_SIGNS) (h__law_asked:Has P w K mg base 2 "_law_asked" ["_law_machine","_law_k"] (Z8l C_Machine C_Places K)):Has P w K mg base 3 "_law_seen" ["_law_machine","_law_bits"] (Z6D C_Machine C_Places K):=by
  refine Has.of T.f__law_seen sc__law_seen (fun _ _ _ _ _ _ us hl=>el2 us hl fun _ _=>rfl) (fun vs H Q E h=>?_) (fun f cdv A outer s H vs Q E hr h=>?_)
  · obtain ⟨ex,o,P,s,b,rfl,_⟩:=h
    rfl
  obtain ⟨ex,o,P',s',b,rfl,M,q⟩:=h
  refine ⟨_,(Z0d (Z0I (i:=2) sc__law_seen.nd rfl (Or.inr rfl) Z6M)
    (Z0d (Z3g PassesOwn.never rfl (Z0Q rfl T.z_range (Z0a Z0c Z0b)) (Z0v (i:=3) sc__law_seen.nd rfl (Or.inl rfl)) (Z0d (Z0I (i:=4) sc__law_seen.nd rfl (Or.inl rfl) (Z0k Z0G (Z0k Z0N (Z0k Z0G (pvF 1) Z0c) (Z0k Z2B (pvF 3) (Z0k Z0N Z0c (Z0k Z0G (Z0k Z0E (pvF 1) Z0c) Z0c)))) Z0c))
    (Z0f (Z3D (Z0F hr) (pvF 2) (pvF 4) (Z0x h__law_asked hr (by first | decide | omega) rfl (Z0a (pvF 0) (Z0a (pvF 4) Z0b))) rfl))))
    (Z0f (Z0y (Z3T rfl (BlockOk.of (N:=["_law_k","_law_found"]) (nl:=[none,some 2]) (cl:=[("_law_found",s.heap.objs.size+1)]) rfl (by decide +kernel) (by decide +kernel) rfl (sub1 rfl) (nm:=["_law_found"]) rfl (by decide +kernel) rfl (fun i hi j hj=>by
            match i,hi with
            | 0,_=>cases hj
             | 1,_=>cases hj; exact ⟨_,rfl,rfl,rfl,.inl rfl⟩
            )) (Z0Q rfl T.z_range (Z0a Z0c Z0b))
          (fun C fp s H=>(Z0v (i:=0) (show (["_law_k","_law_found"]:List Str).Nodup by decide +kernel) rfl (Or.inl rfl)))
          (fun C fp s H=>(Z0n (Z0F hr) (pvF 1) (pvF 0) (fun _ _=>rfl)))))))),?_⟩
  refine seq3 fun uz2 huz2 uz1 huz1=>?_
  walk_at "rd"
  intro D h1
  have s1:=Z0i h1 (.dK [])
  have e1:upd H D (.dK []) D=some (.dK []):=Z0e
  generalize upd H D (.dK [])=H1 at s1 e1 ⊢
  subst huz1
  walk_at "rd"
  obtain ⟨ka,hka,ka7⟩:∃ n:Nat,b % 7=n∧n < 7:=⟨(b % 7).toNat,by omega,by omega⟩
  obtain ⟨km,hkm,km6⟩:∃ n:Nat,b / 7 % 6=n∧n < 6:=⟨(b / 7 % 6).toNat,by omega,by omega⟩
  refine Z1n (SEI K H D s' (fun j=>(ka+j * (1+km)) % 7) (fun x y=>[some (.ref o.x),some (.int b),some (.ref D),x,y])) ⟨[],none,none,s1,e1,Nat.le_refl _,(fun j hj=>absurd hj (Nat.not_lt_zero j)),(fun k v _ h=>by cases h),(fun u v h=>by cases h),rfl⟩ (fun i σ H2 hi hI=>?_) (fun σ H2 hI=>?_)
  · obtain ⟨kvs,x,y,s2,e2,lk,hj,hv,hd,rfl⟩:=hI
    rw [Int.zero_add]
    walk_at "rd"
    have ek:(b % 7+(i:Int) * (1+b / 7 % 6)) % 7=(((ka+i * (1+km)) % 7:Nat):Int):=by rw [hka,hkm,Int.natCast_emod,Int.natCast_add,Int.natCast_mul,Int.natCast_add]; rfl
    have k7:(ka+i * (1+km)) % 7 < 7:=Nat.mod_lt _ (by first | decide | omega)
    rw [ek]
    generalize hkk:(ka+i * (1+km)) % 7=k at k7 ⊢
    refine ⟨.inl ⟨by omega,by omega⟩,ex,o,P',s',k,rfl,M.same s2,k7,fun v H3 s3 r3=>?_⟩
    have e3:=s3 _ _ e2
    refine ⟨_,DPut.k (k:=.inl (k:Int)) e3 (by rw [sizeLine_eq]; omega),?_⟩
    have tt:=Z2l (.dK (putK kvs (.inl (k:Int)) v)) e3 J0T
    have kl:∀ l xs,H l=none→H3 l=some (.lst xs)→upd H3 D (.dK (putK kvs (.inl (k:Int)) v)) l=some (.lst xs):=fun l xs _ e=>by rw [Z0h (fun z=>by rw [z,e3] at e; cases e)]; exact e
    have av:AskR K H H3 s' v k:=by
      match k,r3 with
      | 0,⟨l,ss,a,b,c,d⟩=>exact ⟨l,ss,a,Z0V s2 b,c,d⟩
      | 1,⟨l,ss,a,b,c,d⟩=>exact ⟨l,ss,a,Z0V s2 b,c,d⟩
      | 2,h=>exact h
      | 3,h=>exact h
      | 4,h=>exact h
      | 5,h=>exact h
      | 6,h=>exact h
    refine ⟨_,_,_,fun b' o' h'=>?_,Z0e,Nat.le_trans (Z2j _ _ _) (by omega),fun j hjl=>?_,fun k' v' hk' h'=>?_,fun u u' h0 h1'=>?_,rfl⟩
    · rw [Z0h (fun z=>by rw [z,h1] at h'; cases h')]; exact s3 _ _ (s2 _ _ h')
    · rw [Z2X]
      split
      · exact ⟨_,rfl⟩
      · rename_i hne
        refine hj j (Nat.lt_of_le_of_ne (by omega) fun z=>hne ?_)
        rw [z]
        exact congrArg (fun n:Nat=>Sum.inl (n:Int)) hkk
    · rw [Z2X] at h'
      split at h'
      · rename_i e
        cases h'
        have:k'=k:=by injection e with e; exact Int.ofNat.inj e
        rw [this]
        exact av.same tt kl
      · exact (((hv k' v' hk' h').same (Same.t s3) fun l xs _ e=>s3 _ _ e).same tt kl)
    · rw [Z2X] at h0 h1'
      split at h0
      · rename_i e
        have k0:k=0:=by injection e with e; exact (Int.ofNat.inj e).symm
        subst k0
        split at h1'
        · rename_i e1; injection e1 with e1; cases e1
        · cases h0
          obtain ⟨l,ss,rfl,n1,_⟩:=r3
          obtain ⟨l',ms,rfl,_,m1,_⟩:=hv 1 u' (by first | decide | omega) h1'
          exact fun z=>by injection z with z; rw [z,m1] at n1; cases n1
      · split at h1'
        · rename_i e
          have k1:k=1:=by injection e with e; exact (Int.ofNat.inj e).symm
          subst k1
          cases h1'
          obtain ⟨l,ss,rfl,n1,_⟩:=r3
          obtain ⟨l',ms,rfl,_,m1,_⟩:=hv 0 u (by first | decide | omega) h0
          exact fun z=>by injection z with z; rw [← z,m1] at n1; cases n1
        · exact hd u u' h0 h1'
  · obtain ⟨kvs,x,y,s2,e2,lk,hj,hv,hd,rfl⟩:=hI
    subst huz2
    walk_at "rd"
    have all:∀ k:Nat,k < 7→∃ v,valV kvs (.inl (k:Int))=some v:=fun k hk=>by
      obtain ⟨t,t7,et⟩:=J5V ka km ka7 km6 k hk
      have h:=hj t t7
      have et':(fun j=>(ka+j * (1+km)) % 7) t=k:=et
      rwa [et'] at h
    intro L hL
    refine Z7D none [some (.ref D)] (fun i=>(valV kvs (.inl (i:Int))).getD .non) rfl (fun i hi l K' kk=>?_) (by rw [sizeLine_eq]; decide) ?_
    · walk_at "rd"
      obtain ⟨v,hv1⟩:=all i hi
      rw [hv1] at kk
      refine ⟨v,?_,kk⟩
      have:upd H2 L (.lst l) D=some (.dK kvs):=by rw [Z0h (fun z=>by rw [z,hL] at e2; cases e2)]; exact e2
      rw [← hv1]
      exact DGet.k (k:=.inl (i:Int)) this
    obtain ⟨v0,a0⟩:=all 0 (by first | decide | omega)
    obtain ⟨v1,a1⟩:=all 1 (by first | decide | omega)
    obtain ⟨v2,a2⟩:=all 2 (by first | decide | omega)
    obtain ⟨v3,a3⟩:=all 3 (by first | decide | omega)
    obtain ⟨v4,a4⟩:=all 4 (by first | decide | omega)
    obtain ⟨v5,a5⟩:=all 5 (by first | decide | omega)
    obtain ⟨v6,a6⟩:=all 6 (by first | decide | omega)
    have el:(List.range 7).map (fun i:Nat=>(valV kvs (.inl (i:Int))).getD V.non)=[v0,v1,v2,v3,v4,v5,v6]:=by
      have g:∀ {k:Nat} {v:V},valV kvs (.inl (k:Int))=some v→(valV kvs (.inl (k:Int))).getD V.non=v:=fun {k v} h=>by rw [h]; rfl
      show [(valV kvs (.inl ((0:Nat):Int))).getD V.non,(valV kvs (.inl ((1:Nat):Int))).getD V.non,(valV kvs (.inl ((2:Nat):Int))).getD V.non,(valV kvs (.inl ((3:Nat):Int))).getD V.non,(valV kvs (.inl ((4:Nat):Int))).getD V.non,(valV kvs (.inl ((5:Nat):Int))).getD V.non,(valV kvs (.inl ((6:Nat):Int))).getD V.non]=_
      rw [g a0,g a1,g a2,g a3,g a4,g a5,g a6]
    rw [el]
    obtain ⟨f,ss,rfl,f1,f2,f3⟩:=hv 0 v0 (by first | decide | omega) a0
    obtain ⟨t,ms,rfl,t1,t2,t3⟩:=hv 1 v1 (by first | decide | omega) a1
    have r2:=hv 2 v2 (by first | decide | omega) a2
    have r3:=hv 3 v3 (by first | decide | omega) a3
    have r4:=hv 4 v4 (by first | decide | omega) a4
    have r5:=hv 5 v5 (by first | decide | omega) a5
    have r6:=hv 6 v6 (by first | decide | omega) a6
    cases r3
    cases r4
    cases r5
    cases r6
    have sL:=Z0i hL (.lst [.ref f,.ref t,v2,.int s'.calls,.int s'.looks,.int s'.hits,.int s'.rows])
    have tL:=Same.t sL
    exact q L f t _ (s2.trans sL) ⟨Z0V s2 hL,f1,t1,(fun z=>hd _ _ a0 a1 (by rw [z])),(fun z=>by rw [z,hL] at f2; cases f2),(fun z=>by rw [z,hL] at t2; cases t2),v2,ss,ms,Z0e,EndAt.t r2 tL,sL _ _ f2,Pd.imp (fun _ _ h=>h.t tL) f3,sL _ _ t2,Pd.imp (fun _ _ h=>h.t tL) t3⟩
end
end K65
end
section
set_option format.width 300
namespace K65
open PySem L2 MM
open Mach (AV AFr Row Sg Blk MS PL Mem getP updM seen Z0K Bd)
seal L2.PE L2.PA L2.PT L2.PS L2.PSs L2.PG L2.PGs L2.PI L2.PW
open MT (Kd fk Wo VT Seg Sf)
theorem WR.same {K:W.Frag} {H H':Hp} {wd bl tb nl:Addr} {bks:List Blk} {tabs:List (List (Option Nat))} {nums:List Int} (h:WR K H wd bl tb nl bks tabs nums) (s:Same H H'):WR K H' wd bl tb nl bks tabs nums:=by
 obtain ⟨kvs,d1,d2⟩:=h.d
 obtain ⟨bs,b1,b2⟩:=h.bb
 obtain ⟨ts,t1,t2⟩:=h.tt
 exact ⟨⟨kvs,s _ _ d1,d2⟩,⟨bs,s _ _ b1,Z5M b2 (Same.t s)⟩,⟨ts,s _ _ t1,Paired.imp' (fun _ _ ⟨ta,u1,u2⟩=>⟨ta,u1,s _ _ u2⟩) t2⟩,s _ _ h.nn⟩
theorem WR.get {K:W.Frag} {H:Hp} {wd bl tb nl:Addr} {bks:List Blk} {tabs:List (List (Option Nat))} {nums:List Int} (h:WR K H wd bl tb nl bks tabs nums):DGet H wd (.str "blocks") (some (.ref bl))∧DGet H wd (.str "tables") (some (.ref tb))∧DGet H wd (.str "numbers") (some (.ref nl)):=by
 obtain ⟨kvs,d1,d2,d3,d4⟩:=h.d
 refine ⟨?_,?_,?_⟩
 ·rw [← d2]; exact DGet.k (k:=.inr "blocks") d1
 ·rw [← d3]; exact DGet.k (k:=.inr "tables") d1
 ·rw [← d4]; exact DGet.k (k:=.inr "numbers") d1
noncomputable def pr (bks:List Blk) (tabs:List (List (Option Nat))) (c:Int):Mach.Prog:=⟨bks,tabs,(c / 2 % 13).toNat,decide (c % 2=0)⟩
section
variable (CM CP:Addr) (K:W.Frag)
inductive Z8f (vs:List V) (H:Hp) (Q:VK):Prop
 | mk (wd bl tb nl:Addr) (bks:List Blk) (tabs:List (List (Option Nat))) (nums:List Int) (c:Int) (nl':Addr) (ns:List Int) (front:List Blk) (b:Blk) (a1:vs=[.ref wd,.int c,.ref nl']) (a2:WR K H wd bl tb nl bks tabs nums) (a3:H nl'=some (.lst (ns.map V.int))) (a4:(∀ n∈ns,Bd n)) (a5:bks=front++[b]) (a6:ns.length≤b.size) (a7:b.size < 900) (a8:bks.length < 900) (a9:tabs.length < 900) (a10:∀ o H' S,Same H H'→MOn CM CP K S o (pr bks tabs c) (Z4o b front.length ns) H'→(∀ a,S a→H a=none)→Q (.ref o.x) H'):Z8f vs H Q
def Z6n:Sp:=fun vs H Q _=>Z8f CM CP K vs H Q
end
section
variable {C_Places C_Machine D_ROW_SIGNS:Addr} {P:Program} {w:World} {K:W.Frag} {mg:Str→Option Value} {base:Heap}
theorem J2S (T:Txt P w K mg C_Places C_Machine D_ROW_SIGNS) (h_Machine_6_0:HasD P w K mg base 3 C_Machine "__init__" ["self","blocks","tables","numbers","most","remembers"] (Z6V C_Machine C_Places K) [] (Z3f 6 0 (List.drop 2 [V.int 100,V.bl true]))):Has P w K mg base 5 "_law_made_one" ["_law_world_here","_law_cell","_law_numbers"] (Z6n C_Machine C_Places K):=by
 refine Has.of T.f__law_made_one Z3N (fun _ _ _ _ _ _ us hl=>el3 us hl fun _ _ _=>rfl) (fun vs H Q E h=>?_) (fun f cdv A outer s H vs Q E hr h=>?_)
 ·obtain ⟨wd,bl,tb,nl,bks,tabs,nums,c,nl',ns,front,b,rfl,_⟩:=h
  rfl
 obtain ⟨wd,bl,tb,nl,bks,tabs,nums,c,nl',ns,front,b,rfl,hw,hn,bd,eb,l1,l2,l3,l4,q⟩:=h
 refine ⟨_,(Z0f (Z0y (J3n T.Machine h_Machine_6_0 hr (by first | decide | omega) rfl (Z0a (Z0n (Z0F hr) (pvF 0) Z0g (fun _ _=>rfl)) (Z0a (Z0n (Z0F hr) (pvF 0) Z0g (fun _ _=>rfl)) (Z0a (pvF 2) (Z0a (Z0k Z0G (Z0k Z0E (pvF 1) Z0c) Z0c) (Z0a (Z2x Z0R (Z0k Z0G (pvF 1) Z0c) Z0c (Z0o _)) Z0b))))) J3q))),?_⟩
 walk_at "rd"
 refine ⟨_,hw.get.1,_,hw.get.2.1,fun x dx hx hdx ndx=>?_⟩
 rw [show Z3f 6 0 (List.drop 2 [V.int 100,V.bl true]) [V.ref x,V.ref bl,V.ref tb,V.ref nl',V.int (c / 2 % 13),V.bl (decide (c % 2=0))] []=[V.ref x,V.ref bl,V.ref tb,V.ref nl',V.int (c / 2 % 13),V.bl (decide (c % 2=0))] from Z8P rfl rfl]
 have sX:Same H (upd (upd H dx (.own x)) x (.ins C_Machine dx [])):=fun b o hb=>by
  rw [Z0h (Z0t hb hx),Z0h (Z0t hb hdx)]
  exact hb
 have eX:upd (upd H dx (.own x)) x (.ins C_Machine dx []) x=some (.ins C_Machine dx []):=Z0e
 generalize upd (upd H dx (.own x)) x (.ins C_Machine dx [])=HX at sX eX ⊢
 have hwX:=hw.same sX
 obtain ⟨bs,b1,b2⟩:=hwX.bb
 obtain ⟨ts,t1,t2⟩:=hwX.tt
 refine ⟨fun a=>H a≠none,x,dx,bl,tb,nl',pr bks tabs c,bs,ts,ns,b,front,?_,eX,SqL.of b1,b2,eb,SqL.of t1,Paired.imp' (fun _ _ ⟨ta,u1,u2⟩=>⟨ta,u1,SqL.of u2⟩) t2,SqL.of (sX _ _ hn),bd,l1,l2,l3,l4,fun z=>z hx,fun a ha=>?_,fun o H' ox SX' M=>⟨rfl,?_⟩⟩
 ·have:(((c / 2 % 13).toNat:Nat):Int)=c / 2 % 13:=by omega
  unfold pr
  rw [this]
 ·obtain ⟨u,hu⟩:=Option.ne_none_iff_exists'.mp ha
  rw [sX _ _ hu]
  exact fun z=>by cases z
 ·have S':Same H H':=fun a u hu=>SX' a u (Z0t hu hx) (sX a u hu)
  rw [← ox]
  refine q o H' (fun a=>H' a≠none∧H a=none) S' ⟨fun a h=>h.1,?_⟩ fun a h=>h.2
  have e:(fun a=>H' a≠none∧¬ (H' a≠none∧H a=none))=fun a=>H a≠none:=by
   funext a
   refine propext ⟨fun h z=>h.2 ⟨h.1,z⟩,fun h=>⟨M.exs a h,fun z=>h z.2⟩⟩
  rw [e]
  exact M
end
end K65
end
section
set_option format.width 300
namespace K65
open PySem L2 MM
open Mach (AV AFr Row Sg Blk MS PL Mem getP updM seen Z0K Bd)
seal L2.PE L2.PA L2.PT L2.PS L2.PSs L2.PG L2.PGs L2.PI L2.PW
open MT (Kd fk Wo VT Seg Sf WOk TyS)
structure Gd (P:Mach.Prog) (s0:MS):Prop where
 ty:∃ W ss,WOk W P ss∧TyS W P ss s0
 ps:Mach.PSz P
 z:Szz 0 s0
 bl:P.blocks.length < 1000∧∀ B∈P.blocks,B.rows.length < 1000
theorem Gd.step {P:Mach.Prog} {s0:MS} (g:Gd P s0) (k:Nat) (e:(tr P s0 k).ended=none):Mach.step P (tr P s0 k)=some (tr P s0 (k+1)):=let ⟨_,_,a,b⟩:=g.ty; Z9E a b k e
theorem Gd.sz {P:Mach.Prog} {s0:MS} (g:Gd P s0) (k:Nat):Szz k (tr P s0 k):=let ⟨_,_,a,b⟩:=g.ty; J4P a b g.ps g.z k
theorem Gd.fr {P:Mach.Prog} {s0:MS} (g:Gd P s0) (k:Nat):∀ f∈(tr P s0 k).frames,f.n < 1000∧f.pc < 1000:=fun f hf=>by
 obtain ⟨W,ss,a,b⟩:=g.ty
 obtain ⟨B,h1,h2⟩:=J6x (J1X a b k) f hf
 have:=g.bl.2 B (List.mem_of_getElem? h1)
 have:=(List.getElem?_eq_some_iff.mp h1).1
 exact ⟨by have:=g.bl.1; omega,by omega⟩
theorem Z9i {K:W.Frag} {H:Hp} {P:Mach.Prog} {s0:MS} (g:Gd P s0) {k:Nat} (hk:k≤59) {ss:List V} (h:Paired (FrV K H) ss (tr P s0 k).frames.reverse):RdDs K H ss ((tr P s0 k).frames.reverse.map frE)∧NbL 3 462060 ((tr P s0 k).frames.reverse.map frE):=by
 have z:=(g.sz k).z
 obtain ⟨a,b⟩:=Z4y (K:=K) (H:=H) (g:=frE) (k:=3) (n:=7700) h fun v f hv hf=>by
  have hf:=List.mem_reverse.mp hf
  have h1:=g.fr k f hf
  have h2:=z.fr f hf
  exact FrV.nb (n:=0) hv (by omega) (by omega) (by omega) h2.2
 rw [List.length_reverse] at b
 exact ⟨a,b.mono (Nat.le_refl _) (by have:=z.fl; omega)⟩
theorem Z8U {K:W.Frag} {H:Hp} {P:Mach.Prog} {s0:MS} (g:Gd P s0) {k:Nat} (hk:k≤59) {ms:List V} (h:Paired (ThV K H) ms (tr P s0 k).made):RdDs K H ms ((tr P s0 k).made.map thE)∧NbL 3 29000 ((tr P s0 k).made.map thE):=by
 have z:=(g.sz k).z
 obtain ⟨a,b⟩:=Z4y (K:=K) (H:=H) (g:=thE) (k:=3) (n:=490) h fun v t hv ht=>by
  have h2:=z.mi t ht
  exact ThV.nb hv (by omega) h2.2
 exact ⟨a,b.mono (Nat.le_refl _) (by have:=z.md; omega)⟩
theorem Z6z {K:W.Frag} {H0 H:Hp} {P:Mach.Prog} {s0:MS} (g:Gd P s0) {k:Nat} (hk:k≤59) {l f t:Addr} (h:J3R K H0 H (tr P s0 k) l f t):RdD K H (.ref l) (Z9r (tr P s0 k))∧Nb 5 500000 (Z9r (tr P s0 k)):=by
 obtain ⟨_,_,_,_,_,_,e,ss,ms,h1,h2,h3,h4,h5,h6⟩:=h
 have z:=g.sz k
 have:=z.z.lh
 have:=z.c
 have:=z.r
 obtain ⟨a1,b1⟩:=Z9i g hk h4
 obtain ⟨a2,b2⟩:=Z8U g hk h6
 obtain ⟨a3,b3⟩:=h2.nb
 have i:∀ {n:Nat},n≤100→Nb 4 0 (.int (n:Int)):=fun h=>.int (by omega)
 refine ⟨.lst (SqL.of h1) (.cons (.lst (SqL.of h3) a1) (.cons (.lst (SqL.of h5) a2) (.cons a3 (.cons (.int _) (.cons (.int _) (.cons (.int _) (.cons (.int _) .nil))))))),Nb.lst (k:=4) ?_⟩
 exact .cons (a:=462060) (b:=30000) (Nb.lst b1) (.cons (a:=29000) (b:=100) (Nb.lst b2) (.cons (a:=20) (b:=10) (b3.mono (by first | decide | omega) (Nat.le_refl _)) (.cons (a:=0) (b:=8) (i (by omega)) (.cons (a:=0) (b:=6) (i (by omega)) (.cons (a:=0) (b:=4) (i (by omega)) (.cons (a:=0) (b:=0) (i (by omega)) .nil (by first | decide | omega)) (by first | decide | omega)) (by first | decide | omega)) (by first | decide | omega)) (by first | decide | omega)) (by first | decide | omega)) (by first | decide | omega)
theorem WG.gd {W:Wo} {ss:List Nat} {bks:List Blk} {tabs:List (List (Option Nat))} {nums ns:List Int} {front:List Blk} {b:Blk} (g:WG W ss bks tabs nums) (e:bks=front++[b]) (c:Int) (bd:∀ n∈ns,Bd n) (ln:ns.length=nums.length):ns.length≤b.size∧b.size < 900∧bks.length < 900∧tabs.length < 900∧Gd (pr bks tabs c) (Z4o b front.length ns):=by
 obtain ⟨front',b',told,e',lf,bz,sf⟩:=g.mn
 obtain ⟨ef,eb⟩:=List.append_inj' (e.symm.trans e') rfl
 cases eb
 subst ef
 have l9:=g.wf.on.1
 have f4:=g.wf.fn
 have lb:bks.length=front.length+1:=by rw [e,List.length_append]; rfl
 refine ⟨by omega,by have:=g.nn.2; omega,by omega,by have:=g.tk.1; omega,⟨W,ss,⟨g.wf.fl,fun ho hh w hw=>?_,fun i w ps tk h1 h2=>?_⟩,⟨(fun k ho vs h=>by simp [Z4o] at h),(fun site w h p hp=>by cases hp),.inl ⟨rfl,_,_,b,told,List.replicate nums.length (some .n)++[none,none],[],rfl,?_,?_,?_,.nil,.nil⟩⟩⟩,⟨fun B hB=>?_,fun B hB r hr h m er=>?_⟩,⟨⟨fun f hf=>?_,Nat.le_refl _,Nat.le_refl _,(fun t ht=>by cases ht),Nat.le_refl _,fun k=>⟨Nat.zero_le _,fun p hp=>by cases hp⟩⟩,Nat.le_refl _,Nat.le_refl _⟩,⟨by show bks.length < 1000; omega,fun B hB=>?_⟩⟩
 ·have hl:ho < tabs.length:=by rw [g.tk.1]; exact hh
  obtain ⟨x,h1,h2⟩:=(g.tk.2 _ (List.getElem_mem hl)).2.1 w hw
  refine ⟨x,?_,h2⟩
  show (tabs[ho]?).bind _=_
  rw [List.getElem?_eq_getElem hl]
  show (tabs[ho][w]?).join=_
  rw [h1]; rfl
 ·have hi:i < front.length:=by rw [lf]; exact (List.getElem?_eq_some_iff.mp h1).1
  have hb:bks[i]?=some bks[i]:=List.getElem?_eq_getElem (by omega)
  obtain ⟨u1,u2⟩:=g.bo i _ w ps tk hb h1 h2
  exact ⟨_,hb,u1,u2⟩
 ·show bks[front.length]?=_
  rw [e,List.getElem?_append_right (Nat.le_refl _),Nat.sub_self]; rfl
 ·rw [List.drop_zero]; exact sf
 ·refine ⟨?_,fun i v k h1 h2=>?_⟩
  ·show (ns.map AV.int++List.replicate (b.size - ns.length) AV.non).length=_
   rw [List.length_append,List.length_map,List.length_replicate,List.length_append,List.length_replicate]
   show _=_+2
   omega
  ·have hi:i < ns.length:=by
    rcases Nat.lt_or_ge i ns.length with z | z
    ·exact z
    ·rw [List.getElem?_append_right (by rw [List.length_replicate]; omega)] at h2
     have:=List.mem_of_getElem? h2
     simp at this
   have h1:(ns.map AV.int++List.replicate (b.size - ns.length) AV.non)[i]?=some v:=h1
   rw [List.getElem?_append_left (by rw [List.length_map]; exact hi),List.getElem?_map,List.getElem?_eq_getElem hi] at h1
   rw [List.getElem?_append_left (by rw [List.length_replicate]; omega),List.getElem?_replicate,if_pos (by omega)] at h2
   cases h1
   cases h2
   exact .int (bd _ (List.getElem_mem _))
 ·have:=(g.bs B hB).2.1; omega
 ·have:=(g.bs B hB).2.2.2 r hr
  rw [er] at this
  have:=(List.getElem?_eq_some_iff.mp this).1
  omega
 ·cases List.mem_singleton.mp hf
  refine ⟨Nat.le_refl _,?_⟩
  show (ns.map AV.int++List.replicate (b.size - ns.length) AV.non).length < 900
  rw [List.length_append,List.length_map,List.length_replicate]
  have:=g.nn.2
  omega
 ·have:=(g.bs B hB).2.2.1; omega
def Told (P:Mach.Prog) (s0:MS) (m:Nat):Prop:=1≤m∧m≤60∧(m=60∨(tr P s0 (m - 1)).ended≠none)∧∀ j,j+1 < m→(tr P s0 j).ended=none
noncomputable def Z3j (P:Mach.Prog) (s0:MS) (m:Nat):List V:=(List.range m).map fun j=>V.str (Z9r (tr P s0 j)).shown
theorem Z3y {P:Mach.Prog} {s0:MS} {m:Nat}:(Z3j P s0 m).length=m:=by unfold Z3j; rw [List.length_map,List.length_range]
theorem Z7U {P:Mach.Prog} {s0:MS} {m:Nat}:Z3j P s0 (m+1)=Z3j P s0 m++[V.str (Z9r (tr P s0 m)).shown]:=by unfold Z3j; rw [List.range_succ,List.map_append]; rfl
end K65
end
section
set_option format.width 300
namespace K65
open PySem L2 MM
open Mach (AV AFr Row Sg Blk MS PL Mem getP updM seen Z0K Bd)
seal L2.PE L2.PA L2.PT L2.PS L2.PSs L2.PG L2.PGs L2.PI L2.PW
open MT (Kd fk Wo VT Seg Sf WOk TyS)
section
variable (CM CP:Addr) (K:W.Frag)
inductive Z7z (vs:List V) (H:Hp) (Q:VK):Prop
 | mk (wd bl tb nl:Addr) (bks:List Blk) (tabs:List (List (Option Nat))) (nums:List Int) (c:Int) (nl':Addr) (ns:List Int) (front:List Blk) (b:Blk) (a1:vs=[.ref wd,.int c,.ref nl']) (a2:WR K H wd bl tb nl bks tabs nums) (a3:H nl'=some (.lst (ns.map V.int))) (a4:(∀ n∈ns,Bd n)) (a5:bks=front++[b]) (a6:ns.length≤b.size) (a7:b.size < 900) (a8:bks.length < 900) (a9:tabs.length < 900) (a10:Gd (pr bks tabs c) (Z4o b front.length ns)) (a11:∀ l m H',Same H H'→H l=none→H' l=some (.lst (Z3j (pr bks tabs c) (Z4o b front.length ns) m))→Told (pr bks tabs c) (Z4o b front.length ns) m→Q (.ref l) H'):Z7z vs H Q
def J0L:Sp:=fun vs H Q _=>Z7z K vs H Q
noncomputable def ALI (H0:Hp) (P:Mach.Prog) (s0:MS) (x tl:Addr) (σ0:St) (mm:Nat) (σ:St) (H:Hp):Prop:=∃ o S j,mm=60 - j∧j≤59∧o.x=x∧MOn CM CP K S o P (tr P s0 j) H∧(∀ a,S a→H0 a=none)∧¬ S tl∧H0 tl=none∧Same H0 H∧H tl=some (.lst (Z3j P s0 (j+1)))∧(∀ i,i < j→(tr P s0 i).ended=none)∧σ=σ0
end
section
variable {C_Places C_Machine D_ROW_SIGNS:Addr} {P:Program} {w:World} {K:W.Frag} {mg:Str→Option Value} {base:Heap}
theorem J0o (T:Txt P w K mg C_Places C_Machine D_ROW_SIGNS) (h__law_made_one:Has P w K mg base 5 "_law_made_one" ["_law_world_here","_law_cell","_law_numbers"] (Z6n C_Machine C_Places K)) (h__law_seen:Has P w K mg base 3 "_law_seen" ["_law_machine","_law_bits"] (Z6D C_Machine C_Places K)) (h_Machine_step:HasM P w K mg base 6 C_Machine "step" ["self"] (Z5j C_Machine C_Places K)):Has P w K mg base 7 "_law_alone" ["_law_world_here","_law_cell","_law_numbers"] (J0L K):=by
 refine Has.of T.f__law_alone sc__law_alone (fun _ _ _ _ _ _ us hl=>el3 us hl fun _ _ _=>rfl) (fun vs H Q E h=>?_) (fun f cdv A outer s H vs Q E hr h=>?_)
 ·obtain ⟨wd,bl,tb,nl,bks,tabs,nums,c,nl',ns,front,b,rfl,_⟩:=h
  rfl
 obtain ⟨wd,bl,tb,nl,bks,tabs,nums,c,nl',ns,front,b,rfl,hw,hn,bd,eb,l1,l2,l3,l4,g,q⟩:=h
 refine ⟨_,(Z0d (Z0I (i:=3) sc__law_alone.nd rfl (Or.inl rfl) (Z0x h__law_made_one hr (by first | decide | omega) rfl (Z0a (pvF 0) (Z0a (pvF 1) (Z0a (pvF 2) Z0b)))))
  (Z0d (Z0I (i:=4) sc__law_alone.nd rfl (Or.inl rfl) (Z0D (Z0a (Z0q (r:=Z4k K) (Z2C hr.gd hr.units) rfl T.z_repr Z4g (Z0a (Z0x h__law_seen hr (by first | decide | omega) rfl (Z0a (pvF 3) (Z0a Z0c Z0b))) Z0b)) Z0b)))
  (Z0d (J1k PassesOwn.never (PW.pt (Z3M (Z0m Z4B (Z0q Z0l rfl T.z_len Z0O (Z0a (pvF 4) Z0b)) Z0c (Z0o _)) (Z2Q (Z3d (Z1q (pvF 3) T.Machine.cl h_Machine_step hr (by first | decide | omega)))))) (Z0f (Z0p (Z1h PySem.F.plainAttrs_list PySem.F.slot_list_append PySem.F.type_list_append Z0z (pvF 4) (Z0a (Z0q (r:=Z4k K) (Z2C hr.gd hr.units) rfl T.z_repr Z4g (Z0a (Z0x h__law_seen hr (by first | decide | omega) rfl (Z0a (pvF 3) (Z0a Z0c Z0b))) Z0b)) Z0b)))))
  (Z0f (Z0y (pvF 4)))))),?_⟩
 refine seq4 fun uz3 huz3 uz2 huz2 uz1 huz1=>?_
 walk_at "rd"
 refine ⟨wd,bl,tb,nl,bks,tabs,nums,c,nl',ns,front,b,rfl,hw,hn,bd,eb,l1,l2,l3,l4,fun o H1 S s1 M1 n1=>?_⟩
 generalize pr bks tabs c=Pp at g q M1
 generalize Z4o b front.length ns=i0 at g q M1
 subst huz1
 walk_at "rd"
 refine ⟨_,o,Pp,i0,0,rfl,M1.m,fun l f t H2 s2 r2=>?_⟩
 have nb2:=Z6z g (k:=0) (by first | decide | omega) r2
 obtain ⟨p1,p2,p3,p4⟩:=nb2.2.rp (by first | decide | omega) (by first | decide | omega)
 refine ⟨l,rfl,_,nb2.1,p1,p2,p3,p4,New.of fun tl H3 h3 s3 e3=>?_⟩
 subst huz2
 walk_at "rd"
 have M3:=M1.grow (s2.trans s3)
 have n3:¬ S tl:=fun z=>M1.sub tl z (Z0V s2 h3)
 refine ⟨ALI C_Machine C_Places K H Pp i0 o.x tl [some (.ref wd),some (.int c),some (.ref nl'),some (.ref o.x),some (.ref tl)],⟨60,o,S,0,rfl,by decide,rfl,M3,n1,n3,Z0V (s1.trans s2) h3,s1.trans (s2.trans s3),e3,(fun i hi=>absurd hi (Nat.not_lt_zero i)),rfl⟩,?_⟩
 rintro mm σ H4 ⟨o',S',j,rfl,j59,ox,M4,n4,nt,f4,s4,e4,en,rfl⟩
 walk_at "rd"
 have fin:(j=59∨(tr Pp i0 j).ended≠none)→uz3 { nx:=fun x H'=>Q V.non H',rt:=Q } [some (V.ref wd),some (V.int c),some (V.ref nl'),some (V.ref o.x),some (V.ref tl)] H4:=fun h=>by
  subst huz3
  walk_at "rd"
  exact q tl (j+1) H4 s4 f4 e4 ⟨by omega,by omega,h.elim (fun z=>.inl (by omega)) .inr,fun i hi=>en i (by omega)⟩
 refine ⟨_,.inl (SqL.of e4),?_⟩
 rw [Z3y]
 refine ite2 (fun hlt=>?_) (fun hge=>fin (.inl (by omega)))
 obtain ⟨v,hx,_⟩:=M4.m.ins
 rw [ox] at hx
 refine ⟨o'.dx,_,hx,rfl,_,o',Pp,tr Pp i0 j,by rw [ox],M4.m,?_⟩
 by_cases ee:(tr Pp i0 j).ended=none
 ·refine .inr ⟨j,_,g.step j ee,(g.sz j).z,g.ps,by omega,fun o2 H5 eo k5 M5=>⟨true,rfl,?_⟩⟩
  obtain ⟨S5,N5,n5,s5,m5⟩:=M4.stepd n4 s4 k5 M5
  have t5:H5 tl=some (.lst (Z3j Pp i0 (j+1))):=by rw [k5.k tl ⟨(by rw [e4]; exact fun z=>by cases z),nt⟩]; exact e4
  have nt5:¬ S5 tl:=fun z=>nt (m5 tl (by rw [e4]; exact fun z=>by cases z) z)
  rw [if_pos rfl]
  refine ⟨ALI C_Machine C_Places K H Pp i0 o.x tl [some (V.ref wd),some (V.int c),some (V.ref nl'),some (V.ref o.x),some (V.ref tl)] (60 - (j+1)),fun σ' H' h=>⟨_,by omega,h⟩,.inl ⟨rfl,_,SqL.of t5⟩,_,o2,Pp,tr Pp i0 (j+1),0,by rw [eo,ox],N5.m,fun l f t H6 s6 r6=>?_⟩
  have nb6:=Z6z g (k:=j+1) (by omega) r6
  obtain ⟨p1,p2,p3,p4⟩:=nb6.2.rp (by first | decide | omega) (by first | decide | omega)
  have t6:=s6 _ _ t5
  refine ⟨l,rfl,_,nb6.1,p1,p2,p3,p4,_,t6,by rw [Z3y]; omega,o2,S5,j+1,rfl,by omega,eo.trans ox,?_,n5,nt5,f4,fun a u e=>?_,by rw [Z0e,← Z7U],fun i hi=>?_,rfl⟩
  ·refine (N5.grow s6).beside (Z2l _ t6 Z2a) fun a h=>?_
   exact Z0h (fun z:a=tl=>nt5 (z▸h))
  ·rw [Z0h (fun z=>by rw [z,f4] at e; cases e)]; exact s6 _ _ (s5 _ _ e)
  ·rcases Nat.lt_or_ge i j with z | z
   ·exact en i z
   ·rw [show i=j by omega]; exact ee
 ·refine .inl ⟨ee,false,rfl,?_⟩
  rw [if_neg (by first | decide | omega)]
  exact fin (.inr ee)
end
end K65
end
section
set_option format.width 300
namespace K65
open PySem L2 MM
open Mach (AV AFr Row Sg Blk MS PL Mem getP updM seen Z0K Bd)
seal L2.PE L2.PA L2.PT L2.PS L2.PSs L2.PG L2.PGs L2.PI L2.PW
open MT (Kd fk Wo VT Seg Sf WOk TyS)
section
variable (CM CP:Addr) (K:W.Frag)
noncomputable def Stay (H:Hp) (xs:List V) (ds:List PyData):Prop:=∀ H',SameT H H'→RdDs K H' xs ds
noncomputable def Held (H0 H H2:Hp) (v:V):Prop:=∃ t r c xs ds,v=.ref t∧H0 t=none∧H0 r=none∧H0 c=none∧H t=some (.tup [.ref r,.ref c])∧H r=some (.lst xs)∧H c=some (.lst xs)∧Stay K H2 xs ds∧NbL 3 500000 ds
inductive Z7b (vs:List V) (H:Hp) (Q:VK):Prop
 | mk (ex:Addr→Prop) (o:MO) (P:Mach.Prog) (s0:MS) (j m:Nat) (pa tl hd:Addr) (b:Int) (hs:List V) (a1:vs=[.ref pa,.int b,.ref hd]) (a2:H pa=some (.lst [.ref o.x,.ref tl,.int j])) (a3:H tl=some (.lst (Z3j P s0 m))) (a4:MAt CM CP K ex o P (tr P s0 j) H) (a5:Gd P s0) (a6:j < m) (a7:m≤60) (a8:H hd=some (.lst hs)) (a9:hs.length≤1000) (a10:∀ u v H',(∀ b o,b≠hd→H b=some o→H' b=some o)→SameT H H'→H' hd=some (.lst (hs++[u,v]))→Held K H H' H' u→Held K H H' H' v→Q (.bl true) H'):Z7b vs H Q
def J0K:Sp:=fun vs H Q _=>Z7b CM CP K vs H Q
end
section
variable {K:W.Frag}
noncomputable def RII (K:W.Frag) (Hq H:Hp) (hd:Addr) (hs:List V) (p f t:Addr) (ss ms:List V) (σ0:Option V→St):Nat→St→Hp→Prop
 | 0,σ,H'=>∃ x,σ=σ0 x∧SameT Hq H'∧Same H H'∧H' hd=some (.lst hs)∧H' p=some (.lst [.ref f,.ref t])∧H' f=some (.lst ss)∧H' t=some (.lst ms)
 | 1,σ,H'=>∃ x,σ=σ0 x∧SameT Hq H'∧(∀ b o,b≠hd→H b=some o→H' b=some o)∧SameT H H'∧H' p=some (.lst [.ref f,.ref t])∧H' t=some (.lst ms)∧∃ u,H' hd=some (.lst (hs++[u]))∧Held K H H' H' u∧∀ tu r c,u=.ref tu→H' tu=some (.tup [.ref r,.ref c])→r≠t∧c≠t∧r≠hd∧c≠hd
 | 2,σ,H'=>∃ x,σ=σ0 x∧(∀ b o,b≠hd→H b=some o→H' b=some o)∧SameT H H'∧H' p=some (.lst [.ref f,.ref t])∧∃ u v,H' hd=some (.lst (hs++[u,v]))∧Held K H H' H' u∧Held K H H' H' v
 | _,_,_=>False
theorem RII.slice {Hq H H':Hp} {hd:Addr} {hs:List V} {p f t:Addr} {ss ms:List V} {σ0:Option V→St} {i:Nat} {σ:St} (h:RII K Hq H hd hs p f t ss ms σ0 i σ H'):H' p=some (.lst [.ref f,.ref t]):=by
 match i,h with
 | 0,⟨_,_,_,_,_,h,_⟩=>exact h
 | 1,⟨_,_,_,_,_,h,_⟩=>exact h
 | 2,⟨_,_,_,_,h,_⟩=>exact h
theorem Z7m {H H' H3:Hp} {hd r c t:Addr} {xs hs':List V} {ds:List PyData} (hk:∀ b o,b≠hd→H b=some o→H' b=some o) (hr:H r=none) (er:H' r=some (.lst xs)) (eh:H' hd=some (.lst hs')) (nr:r≠hd) (st:Stay K H' xs ds) (nb:NbL 3 490000 ds)
  (hc:upd H' r (.lst (xs++[.str "spoilt"])) c=none) (ht:upd (upd H' r (.lst (xs++[.str "spoilt"]))) c (.lst (xs++[.str "spoilt"])) t=none) (s3:Same (upd (upd H' r (.lst (xs++[.str "spoilt"]))) c (.lst (xs++[.str "spoilt"]))) H3) (e3:H3 t=some (.tup [.ref r,.ref c])) :
  H3 hd=some (.lst hs')∧(∀ b o,b≠hd→b≠r→H' b=some o→upd H3 hd (.lst (hs'++[.ref t])) b=some o)∧SameT H' (upd H3 hd (.lst (hs'++[.ref t])))∧Held K H (upd H3 hd (.lst (hs'++[.ref t]))) (upd H3 hd (.lst (hs'++[.ref t]))) (.ref t)∧upd H3 hd (.lst (hs'++[.ref t])) t=some (.tup [.ref r,.ref c])∧(∀ b o,H' b=some o→c≠b)∧c≠hd:=by
 have t1:=Z2l (.lst (xs++[V.str "spoilt"])) er Z2a
 have u1:upd H' r (.lst (xs++[.str "spoilt"])) r=some (.lst (xs++[.str "spoilt"])):=Z0e
 have k1:∀ {b o},b≠r→H' b=some o→upd H' r (.lst (xs++[.str "spoilt"])) b=some o:=fun {b o} n e=>by rw [Z0h n]; exact e
 have k0:∀ {b o},H' b=some o→∃ o',upd H' r (.lst (xs++[.str "spoilt"])) b=some o':=fun {b o} e=>by
  by_cases z:b=r
  ·rw [z]; exact ⟨_,u1⟩
  ·exact ⟨o,k1 z e⟩
 generalize upd H' r (.lst (xs++[.str "spoilt"]))=H1 at *
 have s2:=Z0i hc (.lst (xs++[V.str "spoilt"]))
 have u2:upd H1 c (.lst (xs++[.str "spoilt"])) c=some (.lst (xs++[.str "spoilt"])):=Z0e
 generalize upd H1 c (.lst (xs++[.str "spoilt"]))=H2 at *
 have S:=s2.trans s3
 have h3:=S _ _ (k1 (fun z=>nr z.symm) eh)
 have t4:=Z2l (.lst (hs'++[V.ref t])) h3 Z2a
 have T:=t1.trans ((Same.t S).trans t4)
 have cn:∀ b o,H' b=some o→c≠b:=fun b o e z=>by
  obtain ⟨o',e'⟩:=k0 e
  rw [← z,hc] at e'; cases e'
 have free:∀ {a:Addr},H1 a=none→H a=none:=fun {a} z=>by
  cases e:H a with
  | none=>rfl
  | some o=>
   by_cases y:a=hd
   ·rw [y] at z
    rw [k1 (fun z=>nr z.symm) eh] at z; cases z
   ·obtain ⟨o',e'⟩:=k0 (hk a o y e)
    rw [z] at e'; cases e'
 have nch:=cn hd _ eh
 have et:upd H3 hd (.lst (hs'++[.ref t])) t=some (.tup [.ref r,.ref c]):=by rw [Z0h (fun z=>by rw [z,h3] at e3; cases e3)]; exact e3
 refine ⟨h3,fun b o n1 n2 e=>?_,T,⟨t,r,c,_,ds++[.str "spoilt"],rfl,free (Z0V s2 ht),hr,free hc,et,?_,?_,fun H5 s5=>RdDs.app (st H5 (T.trans s5)) (.cons (.str _) .nil),NbL.snoc (a:=6) nb Z2K (by first | decide | omega)⟩,et,cn,nch⟩
 ·rw [Z0h n1]; exact S _ _ (k1 n2 e)
 ·rw [Z0h nr]; exact S _ _ u1
 ·rw [Z0h nch]; exact s3 _ _ u2
end
section
variable {C_Places C_Machine D_ROW_SIGNS:Addr} {P:Program} {w:World} {K:W.Frag} {mg:Str→Option Value} {base:Heap}
theorem J1c (T:Txt P w K mg C_Places C_Machine D_ROW_SIGNS) (h__law_seen:Has P w K mg base 3 "_law_seen" ["_law_machine","_law_bits"] (Z6D C_Machine C_Places K)):Has P w K mg base 4 "_law_right" ["_law_pair","_law_bits","_law_held"] (J0K C_Machine C_Places K):=by
 refine Has.of T.f__law_right sc__law_right (fun _ _ _ _ _ _ us hl=>el3 us hl fun _ _ _=>rfl) (fun vs H Q E h=>?_) (fun f cdv A outer s H vs Q E hr h=>?_)
 ·obtain ⟨ex,o,P,s0,j,m,pa,tl,hd,b,hs,rfl,_⟩:=h
  rfl
 obtain ⟨ex,o,P',s0,j,m,pa,tl,hd,b,hs,rfl,hpa,htl,M,g,jm,m60,hhd,lhs,q⟩:=h
 refine ⟨_,(Z0d (Z0I (i:=3) sc__law_right.nd rfl (Or.inl rfl) (Z0x h__law_seen hr (by first | decide | omega) rfl (Z0a (Z0u (r:=Z0U K) Z0w (pvF 0) Z0c (fun _ _=>rfl)) (Z0a (pvF 1) Z0b))))
  (Z0d (Z0L (Z0m J2T (Z0q (r:=Z4k K) (Z2C hr.gd hr.units) rfl T.z_repr Z4g (Z0a (pvF 3) Z0b)) (Z0u (r:=Z0U K) Z0w (Z0u (r:=Z0U K) Z0w (pvF 0) Z0c (fun _ _=>rfl)) (Z0u (r:=Z0U K) Z0w (pvF 0) Z0c (fun _ _=>rfl)) (fun _ _=>rfl)) (Z0o _)) (Z0f (Z0y Z5g)) Z0C)
  (Z0d (Z3g PassesOwn.never rfl (Z3l (Z1i (r:=rSlL K) Z5t (pvF 3) Z1D (Z1I Z0c))) (Z0v (i:=4) sc__law_right.nd rfl (Or.inl rfl)) (Z0d (Z0p (Z1h PySem.F.plainAttrs_list PySem.F.slot_list_append PySem.F.type_list_append Z0z (pvF 4) (Z0a Z0g Z0b)))
  (Z0f (Z0p (Z1h PySem.F.plainAttrs_list PySem.F.slot_list_append PySem.F.type_list_append Z0z (pvF 2) (Z0a (Z0A (Z0a (pvF 4) (Z0a (Z1r Z1X rfl T.z_list Z3X (Z0a (pvF 4) Z0b)) Z0b))) Z0b))))))
  (Z0f (Z0y Z5g))))),?_⟩
 refine seq4 fun uz3 huz3 uz2 huz2 uz1 huz1=>?_
 walk_at "rd"
 refine ⟨_,SqL.of hpa,.ref o.x,rfl,ex,o,P',tr P' s0 j,b,rfl,M,fun l f t H1 s1 r1=>?_⟩
 subst huz1
 walk_at "rd"
 have nb:=Z6z g (k:=j) (by omega) r1
 obtain ⟨p1,p2,p3,p4⟩:=nb.2.rp (by first | decide | omega) (by first | decide | omega)
 have et:atI (Z3j P' s0 m) (j:Int)=some (V.str (Z9r (tr P' s0 j)).shown):=Z0P (by unfold Z3j; rw [List.getElem?_map,List.getElem?_range jm]; rfl)
 refine ⟨_,nb.1,p1,p2,p3,p4,_,SqL.of (s1 _ _ hpa),.ref tl,rfl,_,SqL.of (s1 _ _ hpa),.int j,rfl,tl,rfl,_,rfl,_,SqL.of (s1 _ _ htl),_,et,rfl,?_⟩
 rw [if_neg (fun z=>z rfl)]
 subst huz2
 walk_at "rd"
 obtain ⟨fl,ff,ft,nft,nfl,ntl,e,ss,ms,h1,h2,h3,h4,h5,h6⟩:=r1
 refine ⟨_,SqL.of h1,New.of fun p Hp' hp sp ep=>⟨⟨_,SqL.of ep⟩,?_⟩⟩
 have ep:Hp' p=some (.lst [.ref f,.ref t]):=ep
 refine Z8v [.ref f,.ref t] (RII K H1 H hd hs p f t ss ms (fun x=>[some (.ref pa),some (.int b),some (.ref hd),some (.ref l),x])) ⟨none,rfl,Same.t sp,s1.trans sp,(s1.trans sp) _ _ hhd,ep,sp _ _ h3,sp _ _ h5⟩ (fun i σ H' _ hI=>?_) (fun i x σ H' hx hI=>?_) (fun σ H' hI=>?_)
 ·exact SqL.of hI.slice
 ·have stf:∀ {H'},SameT H1 H'→Stay K H' ss ((tr P' s0 j).frames.reverse.map frE):=fun {H'} t5 H5 s5=>(Z9i g (k:=j) (by omega) (Pd.imp (fun _ _ h=>h.t (t5.trans s5)) h4)).1
  have stt:∀ {H'},SameT H1 H'→Stay K H' ms ((tr P' s0 j).made.map thE):=fun {H'} t5 H5 s5=>(Z8U g (k:=j) (by omega) (Pd.imp (fun _ _ h=>h.t (t5.trans s5)) h6)).1
  have nbf:=(Z9i g (k:=j) (by omega) h4).2.mono (Nat.le_refl 3) (show 462060≤490000 by decide)
  have nbt:=(Z8U g (k:=j) (by omega) h6).2.mono (Nat.le_refl 3) (show 29000≤490000 by decide)
  have nfh:f≠hd:=fun z=>by rw [z,hhd] at ff; cases ff
  have nth:t≠hd:=fun z=>by rw [z,hhd] at ft; cases ft
  have npx:p≠f∧p≠t∧p≠hd:=⟨(fun z=>by rw [z,h3] at hp; cases hp),(fun z=>by rw [z,h5] at hp; cases hp),(fun z=>by rw [z,s1 _ _ hhd] at hp; cases hp)⟩
  have lss:ss.length≤1000:=by have:=h4.length; rw [List.length_reverse] at this; have:=(g.sz j).z.fl; omega
  have lms:ms.length≤1000:=by have:=h6.length; have:=(g.sz j).z.md; omega
  have lh1:∀ u,(hs++[u]).length≤1001:=fun u=>by rw [List.length_append]; show _+1≤_; omega
  match i,hI with
  | 0,⟨y,ey,tq,s',hh,hp',hf,ht⟩=>
   subst ey
   cases hx
   walk_at "rd"
   refine ⟨.inl ⟨rfl,_,SqL.of hf⟩,_,hf,by omega,.inl ⟨rfl,_,SqL.of (show upd H' f _ hd=_ by rw [Z0h nfh.symm]; exact hh)⟩,_,.inl (SqL.of Z0e),fun c hc=>New.of fun t2 H3 ht3 s3 e3=>?_⟩
   obtain ⟨q1,q2,q3,q4,q5,q6,q7⟩:=Z7m (fun b o _ e=>s' b o e) ff hf hh nfh (stf tq) nbf hc ht3 s3 e3
   refine ⟨_,q1,by omega,_,rfl,tq.trans q3,fun b o n e=>q2 b o n (fun z=>by rw [z,ff] at e; cases e) (s' b o e),(Same.t s').trans q3,q2 _ _ npx.2.2 npx.1 hp',q2 _ _ nth nft.symm ht,.ref t2,Z0e,q4,fun tu r c' eu e=>?_⟩
   injection eu with eu
   rw [← eu,q5] at e
   cases e
   exact ⟨nft,q6 t _ ht,nfh,q7⟩
  | 1,⟨y,ey,tq,k',t',hp',ht,u,hh,hu,nu⟩=>
   subst ey
   cases hx
   walk_at "rd"
   refine ⟨.inl ⟨rfl,_,SqL.of ht⟩,_,ht,by omega,.inl ⟨rfl,_,SqL.of (show upd H' t _ hd=_ by rw [Z0h nth.symm]; exact hh)⟩,_,.inl (SqL.of Z0e),fun c hc=>New.of fun t2 H3 ht3 s3 e3=>?_⟩
   obtain ⟨q1,q2,q3,q4,q5,q6,q7⟩:=Z7m k' ft ht hh nth (stt tq) nbt hc ht3 s3 e3
   refine ⟨_,q1,by have:=lh1 u; omega,_,rfl,fun b o n e=>q2 b o n (fun z=>by rw [z,ft] at e; cases e) (k' b o n e),t'.trans q3,q2 _ _ npx.2.2 npx.2.1 hp',u,.ref t2,by rw [Z0e,List.append_assoc]; rfl,?_,q4⟩
   obtain ⟨tu,r,c0,xs,ds,rfl,z1,z2,z3,z4,z5,z6,z7,z8⟩:=hu
   obtain ⟨y1,y2,y3,y4⟩:=nu tu r c0 rfl z4
   exact ⟨tu,r,c0,xs,ds,rfl,z1,z2,z3,(q3 _ _).1 z4,q2 _ _ y3 y1 z5,q2 _ _ y4 y2 z6,fun H5 s5=>z7 H5 (q3.trans s5),z8⟩
  | n+2,_=>cases hx
 ·obtain ⟨y,ey,k',t',hp',u,v,hh,hu,hv⟩:=hI
  subst ey
  subst huz3
  walk_at "rd"
  exact q u v H' k' t' hh hu hv
end
end K65
end
section
set_option format.width 300
namespace K65
open PySem L2 MM
open Mach (AV AFr Row Sg Blk MS PL Mem getP updM seen Z0K Bd)
seal L2.PE L2.PA L2.PT L2.PS L2.PSs L2.PG L2.PGs L2.PI L2.PW
open MT (Kd fk Wo VT Seg Sf WOk TyS)
section
variable (CM CP:Addr) (K:W.Frag)
inductive Z9d (vs:List V) (H:Hp) (Q:VK):Prop
 | mk (S:Addr→Prop) (o:MO) (P:Mach.Prog) (s0:MS) (j m:Nat) (pa tl:Addr) (a1:vs=[.ref pa]) (a2:H pa=some (.lst [.ref o.x,.ref tl,.int j])) (a3:H tl=some (.lst (Z3j P s0 m))) (a4:MOn CM CP K S o P (tr P s0 j) H) (a5:¬ S pa∧Gd P s0∧Told P s0 m∧j < m∧(j+1=m→Q (.bl true) H)∧(j+1 < m→∀ H1 o' H',H1=upd H pa (.lst [.ref o.x,.ref tl,.int ((j:Int)+1)])→o'.x=o.x→Keep (fun a=>H1 a≠none∧¬ S a) H1 H'→MAt CM CP K (fun a=>H1 a≠none∧¬ S a) o' P (tr P s0 (j+1)) H'→Q (.bl true) H')):Z9d vs H Q
def J2D:Sp:=fun vs H Q _=>Z9d CM CP K vs H Q
end
section
variable {C_Places C_Machine D_ROW_SIGNS:Addr} {P:Program} {w:World} {K:W.Frag} {mg:Str→Option Value} {base:Heap}
theorem J2W (T:Txt P w K mg C_Places C_Machine D_ROW_SIGNS) (h_Machine_step:HasM P w K mg base 6 C_Machine "step" ["self"] (Z5j C_Machine C_Places K)):Has P w K mg base 7 "_law_gone_on" ["_law_pair"] (J2D C_Machine C_Places K):=by
 refine Has.of T.f__law_gone_on Z4t (fun _ _ _ _ _ _ us hl=>el1 us hl fun _=>rfl) (fun vs H Q E h=>?_) (fun f cdv A outer s H vs Q E hr h=>?_)
 ·obtain ⟨S,o,P,s0,j,m,pa,tl,rfl,_⟩:=h
  rfl
 obtain ⟨S,o,P',s0,j,m,pa,tl,rfl,hpa,htl,M,npa,g,td,jm,q1,q2⟩:=h
 obtain ⟨m1,m60,te,tn⟩:=td
 refine ⟨_,(Z0d (Z0L (Z0m Z0R (Z0k Z0N (Z0u (r:=Z0U K) Z0w (pvF 0) Z0c (fun _ _=>rfl)) Z0c) (Z0q Z0l rfl T.z_len Z0O (Z0a (Z0u (r:=Z0U K) Z0w (pvF 0) Z0c (fun _ _=>rfl)) Z0b)) (Z0o _)) (Z0f (Z0y (J6q (Z2x Z0R (Z0q Z0l rfl T.z_len Z0O (Z0a (Z0u (r:=Z0U K) Z0w (pvF 0) Z0c (fun _ _=>rfl)) Z0b)) Z0c (Z0o _)) (J3Z (Z2x J1I (Z1q (Z0u (r:=Z0U K) Z0w (pvF 0) Z0c (fun _ _=>rfl)) T.Machine.cl h_Machine_step hr (by first | decide | omega)) Z5g (Z0o _)))))) Z0C)
  (Z0d (Z1x (Z0k Z0N (Z0u (r:=Z0U K) Z0w (pvF 0) Z0c (fun _ _=>rfl)) Z0c) (Z3t (pvF 0) Z0c Z1M))
  (Z0f (Z0y (Z2x J1I (Z1q (Z0u (r:=Z0U K) Z0w (pvF 0) Z0c (fun _ _=>rfl)) T.Machine.cl h_Machine_step hr (by first | decide | omega)) Z5g (Z0o _)))))),?_⟩
 refine seq3 fun uz2 huz2 uz1 huz1=>?_
 walk_at "rd"
 obtain ⟨v,hx,_⟩:=M.m.ins
 refine ⟨_,SqL.of hpa,.int j,rfl,_,rfl,_,SqL.of hpa,.ref tl,rfl,_,rfl,_,.inl (SqL.of htl),?_⟩
 rw [Z3y]
 refine ite2 (fun e=>?_) (fun e=>?_)
 ·have e:j+1=m:=by omega
  refine ⟨_,SqL.of hpa,.ref tl,rfl,_,rfl,_,.inl (SqL.of htl),?_⟩
  rw [Z3y]
  refine ite2 (fun z=>q1 e) (fun z=>⟨_,SqL.of hpa,.ref o.x,rfl,_,rfl,o.dx,_,hx,rfl,_,o,P',_,rfl,M.m,.inl ⟨?_,false,rfl,q1 e⟩⟩)
  rcases te with te | te
  ·exact absurd (by omega) z
  ·rw [show m - 1=j by omega] at te; exact te
 ·have jm2:j+1 < m:=by omega
  subst huz1
  walk_at "rd"
  refine ⟨_,SqL.of hpa,.int j,rfl,_,rfl,_,hpa,_,rfl,?_⟩
  subst huz2
  walk_at "rd"
  have M1:MOn C_Machine C_Places K S o P' (tr P' s0 j) (upd H pa (.lst [.ref o.x,.ref tl,.int ((j:Int)+1)])):=M.beside (Z2l _ hpa Z2a) fun a h=>Z0h (fun z:a=pa=>npa (z▸h))
  have e1:upd H pa (.lst [.ref o.x,.ref tl,.int ((j:Int)+1)]) pa=some (.lst [.ref o.x,.ref tl,.int ((j:Int)+1)]):=Z0e
  have q2:=q2 jm2 (upd H pa (.lst [.ref o.x,.ref tl,.int ((j:Int)+1)]))
  have q2:=fun o' H'=>q2 o' H' rfl
  show IxL K pa 0 (upd H pa (.lst [.ref o.x,.ref tl,.int ((j:Int)+1)])) _
  generalize upd H pa (.lst [.ref o.x,.ref tl,.int ((j:Int)+1)])=H1 at M1 e1 q2 ⊢
  obtain ⟨v1,hx1,_⟩:=M1.m.ins
  exact ⟨_,SqL.of e1,.ref o.x,rfl,_,rfl,o.dx,_,hx1,rfl,_,o,P',_,rfl,M1.m,.inr ⟨j,_,g.step j (tn j (by omega)),(g.sz j).z,g.ps,by omega,fun o' H' ox k M'=>⟨true,rfl,q2 o' H' ox k M'⟩⟩⟩
end
end K65
end
section
set_option format.width 300
namespace K65
open PySem L2 MM
open Mach (AV AFr Row Sg Blk MS PL Mem getP updM seen Z0K Bd)
seal L2.PE L2.PA L2.PT L2.PS L2.PSs L2.PG L2.PGs L2.PI L2.PW
open MT (Kd fk Wo VT Seg Sf WOk TyS)
structure Mc where
 S:Addr→Prop
 o:MO
 P:Mach.Prog
 s0:MS
 j:Nat
 m:Nat
 pa:Addr
 tl:Addr
noncomputable def HeldG (K:W.Frag) (G H:Hp) (v:V):Prop:=∃ t r c xs ds,v=.ref t∧G t=some (.tup [.ref r,.ref c])∧G r=some (.lst xs)∧G c=some (.lst xs)∧Stay K H xs ds∧NbL 3 500000 ds
structure Am (CM CP:Addr) (K:W.Frag) (G H:Hp) (hd pl:Addr) (c:Mc):Prop where
 m:MOn CM CP K c.S c.o c.P (tr c.P c.s0 c.j) H
 g:∀ a,c.S a→G a=none
 n:¬ c.S hd∧¬ c.S pl
 a:H c.pa=some (.lst [.ref c.o.x,.ref c.tl,.int c.j])
 ag:G c.pa=none
 ah:c.pa≠hd∧c.pa≠pl
 t:G c.tl=some (.lst (Z3j c.P c.s0 c.m))
 gd:Gd c.P c.s0
 td:Told c.P c.s0 c.m
 jm:c.j < c.m
structure Lw (CM CP:Addr) (K:W.Frag) (G H:Hp) (hd pl:Addr) (ms:List Mc) (hs:List V):Prop where
 g:Same G H
 m:∀ c∈ms,Am CM CP K G H hd pl c
 d:∀ (i k:Nat) c e,i≠k→ms[i]?=some c→ms[k]?=some e→c.pa≠e.pa∧∀ a,c.S a→¬ e.S a
 sp:∀ c∈ms,∀ e∈ms,¬ c.S e.pa
 h:H hd=some (.lst hs)∧G hd=none∧∀ v∈hs,HeldG K G H v
 p:H pl=some (.lst (ms.map fun c=>V.ref c.pa))∧G pl=none
 hp:hd≠pl
section
variable {CM CP:Addr} {K:W.Frag} {G H H':Hp} {hd pl:Addr} {ms:List Mc} {hs:List V}
theorem HeldG.t {G':Hp} {v:V} (h:HeldG K G H v) (s:Same G G') (t:SameT H H'):HeldG K G' H' v:=by
 obtain ⟨t0,r,c,xs,ds,e,h1,h2,h3,h4,h5⟩:=h
 exact ⟨t0,r,c,xs,ds,e,s _ _ h1,s _ _ h2,s _ _ h3,fun H5 s5=>h4 H5 (t.trans s5),h5⟩
theorem MOn.eq {S:Addr→Prop} {o:MO} {P:Mach.Prog} {s:MS} (M:MOn CM CP K S o P s H) {a:Addr} (h:S a):∃ u,H a=some u:=Option.ne_none_iff_exists'.mp (M.sub a h)
theorem Lw.same (L:Lw CM CP K G H hd pl ms hs) (s:Same H H'):Lw CM CP K G H' hd pl ms hs:=
 ⟨L.g.trans s,fun c hc=>let A:=L.m c hc; ⟨A.m.grow s,A.g,A.n,s _ _ A.a,A.ag,A.ah,A.t,A.gd,A.td,A.jm⟩,L.d,L.sp,⟨s _ _ L.h.1,L.h.2.1,fun v hv=>(L.h.2.2 v hv).t (Same.refl _) (Same.t s)⟩,⟨s _ _ L.p.1,L.p.2⟩,L.hp⟩
theorem Lw.held (L:Lw CM CP K G H hd pl ms hs) {u v:V} (k:∀ b o,b≠hd→H b=some o→H' b=some o) (t:SameT H H') (eh:H' hd=some (.lst (hs++[u,v]))) (hu:Held K H H' H' u) (hv:Held K H H' H' v):∃ G',Same G G'∧Lw CM CP K G' H' hd pl ms (hs++[u,v]):=by
 obtain ⟨G',hG⟩:∃ G':Hp,∀ a,G' a=match H a with | none=>H' a | some _=>G a:=⟨fun a=>match H a with | none=>H' a | some _=>G a,fun _=>rfl⟩
 have gn:∀ {a},H a=none→G' a=H' a:=fun {a} e=>by rw [hG,e]
 have gs:∀ {a u},H a=some u→G' a=G a:=fun {a u} e=>by rw [hG,e]
 have sg:Same G G':=fun a o e=>by rw [gs (L.g _ _ e)]; exact e
 have ne:∀ {a o},G a=some o→a≠hd:=fun {a o} e z=>by rw [z,L.h.2.1] at e; cases e
 have new:∀ {v},Held K H H' H' v→HeldG K G' H' v:=fun {v} h=>by
  obtain ⟨t0,r,c,xs,ds,e,n1,n2,n3,h1,h2,h3,h4,h5⟩:=h
  exact ⟨t0,r,c,xs,ds,e,by rw [gn n1]; exact h1,by rw [gn n2]; exact h2,by rw [gn n3]; exact h3,h4,h5⟩
 refine ⟨G',sg,fun a o e=>?_,fun c hc=>?_,L.d,L.sp,⟨eh,by rw [gs L.h.1]; exact L.h.2.1,fun w hw=>?_⟩,⟨k _ _ L.hp.symm L.p.1,by rw [gs L.p.1]; exact L.p.2⟩,L.hp⟩
 ·cases z:H a with
  | none=>rw [gn z] at e; exact e
  | some u=>
   rw [gs z] at e
   exact k a o (ne e) (L.g _ _ e)
 ·have A:=L.m c hc
  refine ⟨A.m.beside t fun a h=>?_,fun a h=>?_,A.n,k _ _ A.ah.1 A.a,by rw [gs A.a]; exact A.ag,A.ah,sg _ _ A.t,A.gd,A.td,A.jm⟩
  ·obtain ⟨o,e⟩:=MOn.eq A.m h
   rw [e]
   exact k a o (fun z=>A.n.1 (z▸h)) e
  ·obtain ⟨o,e⟩:=MOn.eq A.m h
   rw [gs e]
   exact A.g a h
 ·rcases List.mem_append.mp hw with e | e
  ·exact (L.h.2.2 w e).t sg t
  ·rcases List.mem_cons.mp e with e | e
   ·rw [e]; exact new hu
   ·cases List.mem_singleton.mp e; exact new hv
theorem Lw.gone (L:Lw CM CP K G H hd pl ms hs) {i:Nat} {c:Mc} {o':MO} {H1:Hp} (hi:ms[i]?=some c) (jm:c.j+1 < c.m) (e1:H1=upd H c.pa (.lst [.ref c.o.x,.ref c.tl,.int ((c.j:Int)+1)])) (ox:o'.x=c.o.x) (kp:Keep (fun a=>H1 a≠none∧¬ c.S a) H1 H') (M':MAt CM CP K (fun a=>H1 a≠none∧¬ c.S a) o' c.P (tr c.P c.s0 (c.j+1)) H'):∃ c':Mc,c'.pa=c.pa∧Lw CM CP K G H' hd pl (ms.set i c') hs:=by
 have hc:=List.mem_of_getElem? hi
 have A:=L.m c hc
 have t1:SameT H H1:=by rw [e1]; exact Z2l _ A.a Z2a
 have u1:H1 c.pa=some (.lst [.ref c.o.x,.ref c.tl,.int ((c.j:Int)+1)]):=by rw [e1]; exact Z0e
 have k1:∀ {a},a≠c.pa→H1 a=H a:=fun {a} n=>by rw [e1]; exact Z0h n
 clear e1
 have npa:¬ c.S c.pa:=L.sp c hc c hc
 have M1:MOn CM CP K c.S c.o c.P (tr c.P c.s0 c.j) H1:=A.m.beside t1 fun a h=>k1 (fun z=>npa (z▸h))
 have M2:=M1.wrote kp M'
 have kk:∀ {a o},H1 a=some o→¬ c.S a→H' a=some o:=fun {a o} e n=>by rw [kp.k a ⟨(by rw [e]; exact fun z=>by cases z),n⟩]; exact e
 have gk:∀ {a o},G a=some o→H1 a=some o∧¬ c.S a:=fun {a o} e=>⟨by rw [k1 (fun z=>by rw [z,A.ag] at e; cases e)]; exact L.g _ _ e,fun z=>by rw [A.g a z] at e; cases e⟩
 have T:=t1.trans kp.t
 have h1:H1 hd=some (.lst hs):=by rw [k1 A.ah.1.symm]; exact L.h.1
 have p1:H1 pl=some (.lst (ms.map fun c=>V.ref c.pa)):=by rw [k1 A.ah.2.symm]; exact L.p.1
 have sm:∀ {a o},H1 a=some o→¬ c.S a→¬ (H' a≠none∧(H1 a≠none→c.S a)):=fun {a o} e n z=>n (z.2 (by rw [e]; exact fun y=>by cases y))
 have am:∀ {k:Nat} {e:Mc},ms[k]?=some e→k≠i→Am CM CP K G H' hd pl e:=fun {k e} hk ne=>by
  have B:=L.m e (List.mem_of_getElem? hk)
  obtain ⟨d1,d2⟩:=L.d k i e c ne hk hi
  refine ⟨B.m.beside T fun a h=>?_,B.g,B.n,kk (by rw [k1 d1]; exact B.a) (L.sp c hc e (List.mem_of_getElem? hk)),B.ag,B.ah,B.t,B.gd,B.td,B.jm⟩
  obtain ⟨o,eo⟩:=MOn.eq B.m h
  have x1:a≠c.pa:=fun z=>L.sp e (List.mem_of_getElem? hk) c hc (z▸h)
  rw [eo]
  exact kk (by rw [k1 x1]; exact eo) (d2 a h)
 have hl:=(List.getElem?_eq_some_iff.mp hi).1
 have at_:∀ {k:Nat} {e:Mc},(ms.set i { c with S:=fun a=>H' a≠none∧(H1 a≠none→c.S a),o:=o',j:=c.j+1 })[k]?=some e→(k=i∧e={ c with S:=fun a=>H' a≠none∧(H1 a≠none→c.S a),o:=o',j:=c.j+1 })∨(k≠i∧ms[k]?=some e):=fun {k e} h=>by
  rw [List.getElem?_set] at h
  by_cases z:i=k
  ·rw [if_pos z,if_pos hl] at h
   exact .inl ⟨z.symm,(Option.some.inj h).symm⟩
  ·rw [if_neg z] at h
   exact .inr ⟨fun y=>z y.symm,h⟩
 have nS:Am CM CP K G H' hd pl { c with S:=fun a=>H' a≠none∧(H1 a≠none→c.S a),o:=o',j:=c.j+1 }:=by
  refine ⟨M2,fun a h=>?_,⟨sm h1 A.n.1,sm p1 A.n.2⟩,?_,A.ag,A.ah,A.t,A.gd,A.td,jm⟩
  ·cases e:G a with
   | none=>rfl
   | some o=>
    obtain ⟨x1,x2⟩:=gk e
    exact absurd (h.2 (by rw [x1]; exact fun y=>by cases y)) x2
  ·show H' c.pa=some (.lst [.ref o'.x,.ref c.tl,.int ((c.j+1:Nat):Int)])
   rw [ox]
   exact kk u1 npa
 refine ⟨{ c with S:=fun a=>H' a≠none∧(H1 a≠none→c.S a),o:=o',j:=c.j+1 },rfl,fun a o e=>kk (gk e).1 (gk e).2,fun e he=>?_,fun k l e f ne hk hf=>?_,fun e he f hf=>?_,⟨kk h1 A.n.1,L.h.2.1,fun v hv=>(L.h.2.2 v hv).t (Same.refl _) T⟩,⟨?_,L.p.2⟩,L.hp⟩
 ·obtain ⟨k,hk⟩:=List.mem_iff_getElem?.mp he
  rcases at_ hk with ⟨_,rfl⟩ | ⟨ne,h⟩
  ·exact nS
  ·exact am h ne
 ·rcases at_ hk with ⟨x1,rfl⟩ | ⟨x1,x2⟩
  ·rcases at_ hf with ⟨y1,rfl⟩ | ⟨y1,y2⟩
   ·exact absurd (x1.trans y1.symm) ne
   ·obtain ⟨d1,d2⟩:=L.d i l c f (fun z=>y1 z.symm) hi y2
    refine ⟨d1,fun a h z=>?_⟩
    obtain ⟨o,eo⟩:=MOn.eq (L.m f (List.mem_of_getElem? y2)).m z
    have x3:a≠c.pa:=fun w=>L.sp f (List.mem_of_getElem? y2) c hc (w▸z)
    exact d2 a (h.2 (by rw [k1 x3,eo]; exact fun y=>by cases y)) z
  ·rcases at_ hf with ⟨y1,rfl⟩ | ⟨y1,y2⟩
   ·obtain ⟨d1,d2⟩:=L.d k i e c x1 x2 hi
    refine ⟨d1,fun a h z=>?_⟩
    obtain ⟨o,eo⟩:=MOn.eq (L.m e (List.mem_of_getElem? x2)).m h
    have x3:a≠c.pa:=fun w=>L.sp e (List.mem_of_getElem? x2) c hc (w▸h)
    exact d2 a h (z.2 (by rw [k1 x3,eo]; exact fun y=>by cases y))
   ·exact L.d k l e f ne x2 y2
 ·obtain ⟨k,hk⟩:=List.mem_iff_getElem?.mp he
  obtain ⟨l,hl'⟩:=List.mem_iff_getElem?.mp hf
  have fp:∃ f0∈ms,f.pa=f0.pa:=by
   rcases at_ hl' with ⟨_,rfl⟩ | ⟨_,h⟩
   ·exact ⟨c,hc,rfl⟩
   ·exact ⟨f,List.mem_of_getElem? h,rfl⟩
  obtain ⟨f0,hf0,ef⟩:=fp
  rw [ef]
  rcases at_ hk with ⟨_,rfl⟩ | ⟨_,h⟩
  ·intro z
   have B:=L.m f0 hf0
   have hne:H1 f0.pa≠none:=by
    by_cases y:f0.pa=c.pa
    ·rw [y,u1]; exact fun y=>by cases y
    ·rw [k1 y,B.a]; exact fun y=>by cases y
   exact L.sp c hc f0 hf0 (z.2 hne)
  ·exact L.sp e (List.mem_of_getElem? h) f0 hf0
 ·rw [List.map_set]
  have:(ms.map fun c=>V.ref c.pa).set i (V.ref c.pa)=ms.map fun c=>V.ref c.pa:=by
   refine List.ext_getElem? fun k=>?_
   rw [List.getElem?_set]
   by_cases z:i=k
   ·subst z
    rw [if_pos rfl,if_pos (by rw [List.length_map]; exact hl),List.getElem?_map,hi]; rfl
   ·rw [if_neg z]
  show H' pl=some (.lst ((ms.map fun c=>V.ref c.pa).set i (V.ref c.pa)))
  rw [this]
  exact kk p1 A.n.2
theorem Lw.add (L:Lw CM CP K G H hd pl ms hs) {H1 H2:Hp} {c:Mc} (s1:Same H H1) (M:MOn CM CP K c.S c.o c.P c.s0 H1) (n:∀ a,c.S a→H a=none) (j0:c.j=0) (hp:H1 c.pa=none) (s2:Same H1 H2) (e2:H2 c.pa=some (.lst [.ref c.o.x,.ref c.tl,.int 0])) (t:G c.tl=some (.lst (Z3j c.P c.s0 c.m))) (gd:Gd c.P c.s0) (td:Told c.P c.s0 c.m):Lw CM CP K G (upd H2 pl (.lst ((ms.map fun c=>V.ref c.pa)++[.ref c.pa]))) hd pl (ms++[c]) hs:=by
 have L2:=L.same (s1.trans s2)
 have tt:=Z2l (.lst ((ms.map fun c=>V.ref c.pa)++[.ref c.pa])) L2.p.1 Z2a
 have k:∀ {a},a≠pl→upd H2 pl (.lst ((ms.map fun c=>V.ref c.pa)++[.ref c.pa])) a=H2 a:=fun {a} n=>Z0h n
 have some_ne:∀ {a o},H a=some o→¬ c.S a:=fun {a o} e z=>by rw [n a z] at e; cases e
 have fp:∀ {a o},H a=some o→a≠c.pa:=fun {a o} e z=>by rw [← z,s1 _ _ e] at hp; cases hp
 have A:Am CM CP K G (upd H2 pl (.lst ((ms.map fun c=>V.ref c.pa)++[.ref c.pa]))) hd pl c:=by
  refine ⟨?_,fun a h=>?_,⟨some_ne L.h.1,some_ne L.p.1⟩,?_,?_,⟨fun z=>fp L.h.1 z.symm,fun z=>fp L.p.1 z.symm⟩,t,gd,td,by rw [j0]; exact td.1⟩
  ·rw [j0]
   exact (M.grow s2).beside tt fun a h=>k (fun z=>some_ne L.p.1 (z▸h))
  ·cases e:G a with
   | none=>rfl
   | some o=>exact absurd h (some_ne (L.g _ _ e))
  ·rw [k (fun z=>fp L.p.1 z.symm),j0]; exact e2
  ·cases e:G c.pa with
   | none=>rfl
   | some o=>exact absurd rfl (fp (L.g _ _ e))
 have B:∀ e∈ms,Am CM CP K G (upd H2 pl (.lst ((ms.map fun c=>V.ref c.pa)++[.ref c.pa]))) hd pl e:=fun e he=>by
  have X:=L2.m e he
  exact ⟨X.m.beside tt fun a h=>k (fun z=>X.n.2 (z▸h)),X.g,X.n,by rw [k X.ah.2]; exact X.a,X.ag,X.ah,X.t,X.gd,X.td,X.jm⟩
 have at_:∀ {i:Nat} {e:Mc},(ms++[c])[i]?=some e→ms[i]?=some e∨(i=ms.length∧e=c):=fun {i e} h=>by
  rcases Nat.lt_or_ge i ms.length with z | z
  ·rw [List.getElem?_append_left z] at h; exact .inl h
  ·have:=(List.getElem?_eq_some_iff.mp h).1
   rw [List.length_append] at this
   have:i < ms.length+1:=this
   have ei:i=ms.length:=by omega
   rw [ei,List.getElem?_append_right (Nat.le_refl _),Nat.sub_self] at h
   exact .inr ⟨ei,(Option.some.inj h).symm⟩
 have oS:∀ {e a},e∈ms→e.S a→∃ o,H a=some o:=fun {e a} he h=>MOn.eq (L.m e he).m h
 refine ⟨fun a o e=>?_,fun e he=>?_,fun i l e f ne hi hf=>?_,fun e he f hf=>?_,⟨by rw [k L.hp]; exact L2.h.1,L.h.2.1,fun v hv=>(L2.h.2.2 v hv).t (Same.refl _) tt⟩,⟨by rw [Z0e,List.map_append]; rfl,L.p.2⟩,L.hp⟩
 ·rw [k (fun z=>by rw [z,L.p.2] at e; cases e)]; exact L2.g _ _ e
 ·rcases List.mem_append.mp he with h | h
  ·exact B e h
  ·cases List.mem_singleton.mp h; exact A
 ·rcases at_ hi with x | ⟨x1,x2⟩
  ·rcases at_ hf with y | ⟨y1,y2⟩
   ·exact L.d i l e f ne x y
   ·subst y2
    have me:=List.mem_of_getElem? x
    refine ⟨fp (L.m e me).a,fun a h=>?_⟩
    obtain ⟨o,eo⟩:=oS me h
    exact some_ne eo
  ·rcases at_ hf with y | ⟨y1,y2⟩
   ·subst x2
    have me:=List.mem_of_getElem? y
    refine ⟨fun z=>fp (L.m f me).a z.symm,fun a h z=>?_⟩
    obtain ⟨o,eo⟩:=oS me z
    exact some_ne eo h
   ·exact absurd (x1.trans y1.symm) ne
 ·have pf:f.pa=c.pa∨∃ o,H f.pa=some o:=by
   rcases List.mem_append.mp hf with h | h
   ·exact .inr ⟨_,(L.m f h).a⟩
   ·cases List.mem_singleton.mp h; exact .inl rfl
  rcases List.mem_append.mp he with h | h
  ·intro z
   obtain ⟨o,eo⟩:=oS h z
   rcases pf with y | y
   ·exact fp eo y
   ·rcases List.mem_append.mp hf with w | w
    ·exact L.sp e h f w z
    ·cases List.mem_singleton.mp w; exact fp eo rfl
  ·cases List.mem_singleton.mp h
   intro z
   rcases pf with y | ⟨o,eo⟩
   ·rw [y] at z
    exact M.sub _ z hp
   ·exact some_ne eo z
end
end K65
end
section
set_option format.width 300
namespace K65
open PySem L2 MM
open Mach (AV AFr Row Sg Blk MS PL Mem getP updM seen Z0K Bd)
seal L2.PE L2.PA L2.PT L2.PS L2.PSs L2.PG L2.PGs L2.PI L2.PW
open MT (Kd fk Wo VT Seg Sf WOk TyS Sm)
noncomputable def rowE:Row→PyData
 | .push v=>.tuple [.str "push",avD v]
 | .load i=>.tuple [.str "load",.int i]
 | .nt=>.tuple [.str "not"]
 | .get pl=>.tuple [.str "get",.int pl]
 | .keep i=>.tuple [.str "keep",.int i]
 | .drop=>.tuple [.str "drop"]
 | .skip n=>.tuple [.str "skip",.int n]
 | .unl n=>.tuple [.str "unless",.int n]
 | .two g=>.tuple [.str (sgN g)]
 | .make h m=>.tuple [.str "make",.int h,.int m]
 | .put pl=>.tuple [.str "put",.int pl]
 | .call s w m=>.tuple [.str "call",.int s,.int w,.int m]
 | .straight b m=>.tuple [.str "straight",.int b,.int m]
 | .back=>.tuple [.str "back"]
noncomputable def blkE (b:Blk):PyData:=.tuple [.int b.params,.int b.size,.tuple (b.rows.map rowE)]
noncomputable def onE:Option Nat→PyData
 | none=>.none
 | some n=>.int n
noncomputable def tabE (t:List (Option Nat)):PyData:=.list (t.map onE)
noncomputable def wE (bks:List Blk) (tabs:List (List (Option Nat))) (nums:List Int):PyData:=.list [.list (bks.map blkE),.list (tabs.map tabE),.list (nums.map PyData.int)]
section
variable {K:W.Frag} {H:Hp}
theorem row0 {t:Addr} {x:Str} (h:SqT K H t [.str x]) (s:PyData.strOk x=true:=by decide +kernel) (l:x.cps.size≤8:=by decide +kernel):RdD K H (.ref t) (.tuple [.str x])∧Nb 2 20 (.tuple [.str x]):=
 ⟨.tup h (.cons (.str _) .nil),(Nb.tup (k:=0) (n:=20) (.cons (a:=8) (b:=0) (.str s l) .nil (by first | decide | omega))).mono (by first | decide | omega) (Nat.le_refl _)⟩
theorem row1 {t:Addr} {x:Str} {i:Nat} (h:SqT K H t [.str x,.int i]) (hi:i < 1000000) (s:PyData.strOk x=true:=by decide +kernel) (l:x.cps.size≤8:=by decide +kernel):RdD K H (.ref t) (.tuple [.str x,.int i])∧Nb 2 20 (.tuple [.str x,.int i]):=
 ⟨.tup h (.cons (.str _) (.cons (.int _) .nil)),(Nb.tup (k:=0) (n:=20) (.cons (a:=8) (b:=1) (.str s l) (.cons (a:=0) (b:=0) (.int (by omega)) .nil (by first | decide | omega)) (by first | decide | omega))).mono (by first | decide | omega) (Nat.le_refl _)⟩
theorem row2 {t:Addr} {x:Str} {i j:Nat} (h:SqT K H t [.str x,.int i,.int j]) (hi:i < 1000000) (hj:j < 1000000) (s:PyData.strOk x=true:=by decide +kernel) (l:x.cps.size≤8:=by decide +kernel):RdD K H (.ref t) (.tuple [.str x,.int i,.int j])∧Nb 2 20 (.tuple [.str x,.int i,.int j]):=
 ⟨.tup h (.cons (.str _) (.cons (.int _) (.cons (.int _) .nil))),(Nb.tup (k:=0) (n:=20) (.cons (a:=8) (b:=2) (.str s l) (.cons (a:=0) (b:=1) (.int (by omega)) (.cons (a:=0) (b:=0) (.int (by omega)) .nil (by first | decide | omega)) (by first | decide | omega)) (by first | decide | omega))).mono (by first | decide | omega) (Nat.le_refl _)⟩
theorem J4q {W:Wo} {v:V} {r:Row} (wf:WF W) (h:RowV K H v r) (sm:Sm W 100 6 r):RdD K H v (rowE r)∧Nb 2 20 (rowE r):=by
 obtain ⟨t,rfl,h⟩:=h
 obtain ⟨m0,f0,f3⟩:=wf.f0
 have hn:=wf.hn.1
 have on:=wf.on.1
 have fl:∀ {pl:Nat},(pl=3∨∀ m∈W.fields,pl < m)→pl < 1000000:=fun {pl} h=>by
  rcases h with h | h
  ·omega
  ·have:=h m0 (List.mem_of_getElem? f0); omega
 have hd:∀ {w m:Nat} {ps:List Kd} {tk:Kd},W.heads[w]?=some (ps,tk)→m=1+ps.length→w < 1000000∧m < 1000000:=fun {w m ps tk} h e=>by
  have h1:ps.length≤2:=(wf.hk _ (List.mem_of_getElem? h)).1
  have h2:=(List.getElem?_eq_some_iff.mp h).1
  omega
 cases r with
 | push x=>
  obtain ⟨y,a,b⟩:=h
  obtain ⟨r1,n1⟩:=b.nb
  exact ⟨.tup a (.cons (.str _) (.cons r1 .nil)),Nb.tup (k:=1) (n:=20) (.cons (a:=8) (b:=8) Z2K (.cons (a:=7) (b:=0) n1 .nil (by first | decide | omega)) (by first | decide | omega))⟩
 | load i=>exact row1 h (Nat.lt_of_lt_of_le sm (by first | decide | omega))
 | nt=>exact row0 h
 | get pl=>exact row1 h (fl sm)
 | keep i=>exact row1 h (Nat.lt_of_lt_of_le sm (by first | decide | omega))
 | drop=>exact row0 h
 | skip n=>exact row1 h (Nat.lt_of_lt_of_le sm (by first | decide | omega))
 | unl n=>exact row1 h (Nat.lt_of_lt_of_le sm (by first | decide | omega))
 | two g=>cases g <;> exact row0 h
 | make a m=>
  have h1:=(List.getElem?_eq_some_iff.mp sm).1
  have h2:=(wf.fl m (List.mem_of_getElem? sm)).2
  have h3:=wf.fn
  exact row2 h (by omega) (by omega)
 | put pl=>exact row1 h (fl sm)
 | call s w m=>
  obtain ⟨h1,ps,tk,h2,h3⟩:=sm
  obtain ⟨h4,h5⟩:=hd h2 h3
  exact ⟨.tup h (.cons (.str _) (.cons (.int _) (.cons (.int _) (.cons (.int _) .nil)))),(Nb.tup (k:=0) (n:=20) (.cons (a:=8) (b:=3) Z2K (.cons (a:=0) (b:=2) (.int (by omega)) (.cons (a:=0) (b:=1) (.int (by omega)) (.cons (a:=0) (b:=0) (.int (by omega)) .nil (by first | decide | omega)) (by first | decide | omega)) (by first | decide | omega)) (by first | decide | omega))).mono (by first | decide | omega) (Nat.le_refl _)⟩
 | straight b m=>
  obtain ⟨h1,w,ps,tk,h2,h3⟩:=sm
  exact row2 h (by omega) (hd h2 h3).2
 | back=>exact row0 h
theorem J3Y {W:Wo} {v:V} {b:Blk} (wf:WF W) (h:BlkAt K H v b) (ok:BOk W b):RdD K H v (blkE b)∧Nb 4 12700 (blkE b):=by
 obtain ⟨a,ra,rs,rfl,h1,h2,h3⟩:=h
 obtain ⟨o1,o2,o3,o4⟩:=ok
 obtain ⟨r1,n1⟩:=Z4y (K:=K) (H:=H) (g:=rowE) (k:=2) (n:=20) h3 fun v r hv hr=>J4q wf hv (o4 r hr)
 refine ⟨.tup h1 (.cons (.int _) (.cons (.int _) (.cons (.tup h2 r1) .nil))),Nb.tup (k:=3) (.cons (a:=0) (b:=12602) (.int (by omega)) (.cons (a:=0) (b:=12601) (.int (by omega)) (.cons (a:=12600) (b:=0) (Nb.tup (k:=2) (n1.mono (Nat.le_refl _) (by omega))) .nil (by first | decide | omega)) (by first | decide | omega)) (by first | decide | omega))⟩
theorem J3D {t:List (Option Nat)} (h:∀ b:Nat,some b∈t→b < 1000):RdDs K H (t.map tabV) (t.map onE)∧NbL 0 t.length (t.map onE):=by
 induction t with
 | nil=>exact ⟨.nil,.nil⟩
 | cons x t ih=>
  obtain ⟨a,b⟩:=ih fun b hb=>h b (List.mem_cons_of_mem _ hb)
  cases x with
  | none=>exact ⟨.cons .non a,.cons (a:=0) .none b (by rw [List.length_cons]; omega)⟩
  | some n=>exact ⟨.cons (.int _) a,.cons (a:=0) (.int (by have:=h n List.mem_cons_self; omega)) b (by rw [List.length_cons]; omega)⟩
theorem J4L {W:Wo} {v:V} {t:List (Option Nat)} (wf:WF W) (h:TbV H v t) (ok:J0i W.heads W.owners t):RdD K H v (tabE t)∧Nb 1 100 (tabE t):=by
 obtain ⟨ta,rfl,e⟩:=h
 have:=wf.on.1
 have:=wf.hn.1
 have:=ok.1
 obtain ⟨a,b⟩:=J3D (K:=K) (H:=H) (t:=t) fun x hx=>by have:=ok.2.2 x hx; omega
 exact ⟨.lst (SqL.of e) a,Nb.lst (b.mono (Nat.le_refl _) (by omega))⟩
theorem J2w {ns:List Int} (h:∀ n∈ns,Bd n):RdDs K H (ns.map V.int) (ns.map PyData.int)∧NbL 0 ns.length (ns.map PyData.int):=by
 induction ns with
 | nil=>exact ⟨.nil,.nil⟩
 | cons x t ih=>
  obtain ⟨a,b⟩:=ih fun b hb=>h b (List.mem_cons_of_mem _ hb)
  exact ⟨.cons (.int _) a,.cons (a:=0) (.int (by have:=h x List.mem_cons_self; unfold Mach.Bd at this; omega)) b (by rw [List.length_cons]; omega)⟩
theorem Z7a {W:Wo} {ss:List Nat} {wd bl tb nl l:Addr} {bks:List Blk} {tabs:List (List (Option Nat))} {nums:List Int} (hw:WR K H wd bl tb nl bks tabs nums) (g:WG W ss bks tabs nums) (e:H l=some (.lst [.ref bl,.ref tb,.ref nl])):RdD K H (.ref l) (wE bks tabs nums)∧Nb 6 300000 (wE bks tabs nums):=by
 obtain ⟨bs,b1,b2⟩:=hw.bb
 obtain ⟨ts,t1,t2⟩:=hw.tt
 have l9:=g.wf.on.1
 have f4:=g.wf.fn
 have n3:=g.nn.2
 have t4:=g.tk.1
 have lb:bks.length≤10:=by
  obtain ⟨front,b,told,e,lf,_⟩:=g.mn
  rw [e,List.length_append]; show _+1≤_; omega
 obtain ⟨r1,n1⟩:=Z4y (K:=K) (H:=H) (g:=blkE) (k:=4) (n:=12700) b2 fun v b hv hb=>J3Y g.wf hv (g.bs b hb)
 obtain ⟨r2,m2⟩:=Z4y (K:=K) (H:=H) (g:=tabE) (k:=1) (n:=100) t2 fun v t hv ht=>J4L g.wf hv (g.tk.2 t ht)
 obtain ⟨r3,m3⟩:=J2w (K:=K) (H:=H) g.nn.1
 exact ⟨.lst (SqL.of e) (.cons (.lst (SqL.of b1) r1) (.cons (.lst (SqL.of t1) r2) (.cons (.lst (SqL.of hw.nn) r3) .nil))),Nb.lst (k:=5) (.cons (a:=127010) (b:=600) (Nb.lst (n1.mono (Nat.le_refl _) (by omega))) (.cons (a:=404) (b:=10) ((Nb.lst (m2.mono (Nat.le_refl _) (by omega))).mono (by first | decide | omega) (Nat.le_refl _)) (.cons (a:=3) (b:=0) ((Nb.lst (m3.mono (Nat.le_refl _) n3)).mono (by first | decide | omega) (Nat.le_refl _)) .nil (by first | decide | omega)) (by first | decide | omega)) (by first | decide | omega))⟩
end
end K65
end
section
set_option format.width 300
namespace K65
open PySem L2 MM
open Mach (AV AFr Row Sg Blk MS PL Mem getP updM seen Z0K Bd)
seal L2.PE L2.PA L2.PT L2.PS L2.PSs L2.PG L2.PGs L2.PI L2.PW
open MT (Kd fk Wo VT Seg Sf WOk TyS Sm)
inductive J1R (K:W.Frag) (vs:List V) (H:Hp) (Q:VK):Prop
 | mk (a:Addr) (ns:List Int) (a1:vs=[.ref a]) (a2:SqL K H a (ns.map V.int)) (a3:ns.length≤63) (a4:∀ H',Q (.bl true) H'):J1R K vs H Q
def sp_law (K:W.Frag):Sp:=fun vs H Q _=>J1R K vs H Q
structure Ce where
 t:Addr
 c:Int
 n:Addr
 ns:List Int
def CeOk (H:Hp) (k:Nat) (e:Ce):Prop:=H e.t=some (.tup [.int e.c,.ref e.n])∧H e.n=some (.lst (e.ns.map V.int))∧(∀ n∈e.ns,Bd n)∧e.ns.length=k
theorem CeOk.same {H H':Hp} {k:Nat} {e:Ce} (h:CeOk H k e) (s:Same H H'):CeOk H' k e:=⟨s _ _ h.1,s _ _ h.2.1,h.2.2⟩
def AlR (bks:List Blk) (tabs:List (List (Option Nat))) (front:List Blk) (b:Blk) (ces:List Ce) (D:Addr) (i:Nat) (v:V) (H:Hp):Prop:=∃ e l m,ces[i]?=some e∧v=.ref l∧l≠D∧H l=some (.lst (Z3j (pr bks tabs e.c) (Z4o b front.length e.ns) m))∧Told (pr bks tabs e.c) (Z4o b front.length e.ns) m
theorem AlR.keep {bks:List Blk} {tabs:List (List (Option Nat))} {front:List Blk} {b:Blk} {ces:List Ce} {D:Addr} {i:Nat} {v:V} {H H':Hp} (h:AlR bks tabs front b ces D i v H) (k:∀ b o,b≠D→H b=some o→H' b=some o):AlR bks tabs front b ces D i v H':=let ⟨e,l,m,h1,h2,h3,h4,h5⟩:=h; ⟨e,l,m,h1,h2,h3,k _ _ h3 h4,h5⟩
def LI (CM CP:Addr) (K:W.Frag) (H9:Hp) (hd pl:Addr) (σ0:Option V→Option V→Option V→Option V→Option V→St) (k:Nat) (σ:St) (H:Hp):Prop:=∃ G ms hs x9 x10 x11 x12 x13,Same H9 G∧Lw CM CP K G H hd pl ms hs∧ms.length≤4∧(1≤k→1≤ms.length)∧hs.length≤4 * k∧σ=σ0 x9 x10 x11 x12 x13
theorem sp_law_ok {K:W.Frag} {H:Hp} {a:Addr} {ns:List Int} (hl:ns.length≤63) (hS:SqL K H a (ns.map V.int)):sp_law K [.ref a] H (fun v _=>v=.bl true) fun _ _ _=>False:=⟨a,ns,rfl,hS,hl,fun _=>rfl⟩
section
variable {C_Places C_Machine D_ROW_SIGNS:Addr} {P:Program} {w:World} {K:W.Frag} {mg:Str→Option Value} {base:Heap}
theorem ok_law (T:Txt P w K mg C_Places C_Machine D_ROW_SIGNS) {f:Addr} {fd:FuncData} (F:Fun K "law" "law" J0b f fd):FnOk P w K mg base CX0 20 f fd ["_law_script"] (sp_law K):=by
  have h__law_cell_at:=J2O (P:=P) (w:=w) (base:=base) T
  have h__law_mixed:=J0J (P:=P) (w:=w) (base:=base) T
  have h__law_number:=Z8V (P:=P) (w:=w) (base:=base) T
  have h__law_made0:=J1f (P:=P) (w:=w) (base:=base) T
  have h__law_made1:=Z8e T (m1:=3) (Nat.le_refl 1) (.inl (Nat.le_refl _)) h__law_mixed h__law_number h__law_made0
  have h__law_made:=Z8e T (m1:=4) (show 1≤2 by decide) (.inr (Nat.le_refl _)) h__law_mixed h__law_number h__law_made1
  have h__law_push:=J3f T h__law_number h__law_made
  have h__law_want:=J2h T h__law_mixed h__law_push
  have h__law_branch:=Z9p T h__law_mixed h__law_push h__law_want
  have h__law_slotted:=Z7Z (P:=P) (w:=w) (base:=base) T
  have h__law_calling:=Z7N T h__law_want
  have h__law_inner_thing:=J0z T h__law_made h__law_push
  have h__law_about_thing:=J0N T h__law_want h__law_inner_thing
  have h__law_piece:=J0p T h__law_want h__law_branch h__law_slotted h__law_calling h__law_about_thing
  have h__law_block:=J0F T h__law_mixed h__law_want h__law_piece
  have h__law_world:=J0D T h__law_cell_at h__law_mixed h__law_number h__law_block
  have h_Machine_answer:=Z8z (P:=P) (w:=w) (base:=base) T
  have h_Machine_calls:=J1m (P:=P) (w:=w) (base:=base) T
  have h_Machine_looks:=J0H (P:=P) (w:=w) (base:=base) T
  have h_Machine_hits:=J2q (P:=P) (w:=w) (base:=base) T
  have h__law_asked:=J2j T h_Machine_answer (Z8D (P:=P) (w:=w) (base:=base) T) (Z8s (P:=P) (w:=w) (base:=base) T) h_Machine_calls h_Machine_looks h_Machine_hits (Z5T (P:=P) (w:=w) (base:=base) T)
  have h__law_seen:=J2i T h__law_asked
  have h_uppermost:=J6H (P:=P) (w:=w) (base:=base) T
  have h_behind:=Z9e (P:=P) (w:=w) (base:=base) T
  have h_entered:=Z7Y (P:=P) (w:=w) (base:=base) T
  have h_two_told:=Z6q T (Z7O (P:=P) (w:=w) (base:=base) T) (Z4z (P:=P) (w:=w) (base:=base) T)
  have h_two_done:=Z6u T h_two_told h_behind
  have h_own_done:=J4l T h_two_done h_behind (J1a (P:=P) (w:=w) (base:=base) T)
  have h_Machine_end:=J4r (P:=P) (w:=w) (base:=base) T
  have h_Machine_told_answer:=J0f (P:=P) (w:=w) (base:=base) T
  have h_Places_told:=J2s (P:=P) (w:=w) (base:=base) T
  have h_Places_asked:=J0y T h_Places_told
  have h_Places_put:=J3r T h_Places_told
  have h_Machine_step:=J0x T (J0B T h_uppermost h_behind) (J2g T h_uppermost h_behind) (Z9K T h_uppermost h_Places_asked h_Places_put) (J0a T h_Machine_end h_uppermost h_entered) (Z8C T h_Machine_told_answer h_Machine_end) (J0G T h_own_done h_Machine_end)
  have h_Machine_6_0:=J1g T 6 0 0 [] (J0W (P:=P) (w:=w) (base:=base) T) h_entered (fun kV doc pm an cdv ct dA u1 u2 us ws h1 h2=>el6 us h1 fun _ _ _ _ _ _=>el0 ws h2 ⟨_,rfl,rfl⟩)
  have h__law_made_one:=J2S T h_Machine_6_0
  have h__law_alone:=J0o T h__law_made_one h__law_seen h_Machine_step
  have h__law_right:=J1c T h__law_seen
  have h__law_gone_on:=J2W T h_Machine_step
  refine F.ok sc_law (fun vs H Q E h=>?_) (fun cdv A outer s H vs Q E hr h=>?_)
  · obtain ⟨a,ns,rfl,_⟩:=h
    rfl
  obtain ⟨a,ns,rfl,sq,hl,q⟩:=h
  refine ⟨_,(Z0d (Z0I (i:=1) sc_law.nd rfl (Or.inr rfl) (Z0x h__law_world hr (by first | decide | omega) rfl (Z0a (pvF 0) Z0b)))
    (Z0d (Z0I (i:=2) sc_law.nd rfl (Or.inl rfl) (Z0q (r:=Z4k K) (Z2C hr.gd hr.units) rfl T.z_repr Z4g (Z0a (Z0D (Z0a (Z0n (Z0F hr) (pvF 1) Z0g (fun _ _=>rfl)) (Z0a (Z0n (Z0F hr) (pvF 1) Z0g (fun _ _=>rfl)) (Z0a (Z0n (Z0F hr) (pvF 1) Z0g (fun _ _=>rfl)) Z0b)))) Z0b)))
    (Z0d (Z0I (i:=3) sc_law.nd rfl (Or.inl rfl) (Z0x h__law_cell_at hr (by first | decide | omega) rfl (Z0a (pvF 0) (Z0a Z0c Z0b))))
    (Z0d (Z4f rfl sc_law.nd (i:=4) rfl rfl (BlockOk.plain (N:=["_law_number_here"]) rfl (by decide +kernel) (by decide +kernel) (by decide +kernel)) (Z3l (Z0n (Z0F hr) (pvF 1) Z0g (fun _ _=>rfl)))
          (fun C fp s H=>(Z0v (i:=0) (show (["_law_number_here"]:List Str).Nodup by decide +kernel) rfl (Or.inl rfl)))
          (fun C fp s H=>(Z0k Z0E (pvF 0) Z0c)))
    (Z0d (Z0I (i:=5) sc_law.nd rfl (Or.inl rfl) (Z0D (Z0a (Z0A (Z0a (pvF 3) (Z0a (Z0n (Z0F hr) (pvF 1) Z0g (fun _ _=>rfl)) Z0b))) (Z0a (Z0A (Z0a (Z0k Z0E (pvF 3) Z0c) (Z0a (pvF 4) Z0b))) (Z0a (Z0A (Z0a (Z0k Z0E (pvF 3) Z0c) (Z0a (pvF 4) Z0b))) (Z0a (Z0A (Z0a (Z0k Z0E (pvF 3) Z0c) (Z0a (Z0n (Z0F hr) (pvF 1) Z0g (fun _ _=>rfl)) Z0b))) Z0b))))))
    (Z0d (Z4f rfl sc_law.nd (i:=6) rfl rfl (BlockOk.of (N:=["_law_one","_law_numbers","_law_world_here"]) (nl:=[none,none,some 1]) (cl:=[("_law_world_here",s.heap.objs.size+1)]) rfl (by decide +kernel) (by decide +kernel) rfl (sub1 rfl) (nm:=["_law_world_here"]) rfl (by decide +kernel) rfl (fun i hi j hj=>by
            match i,hi with
            | 0,_=>cases hj
             | 1,_=>cases hj
             | 2,_=>cases hj; exact ⟨_,rfl,rfl,rfl,.inl rfl⟩
            )) (Z3l (pvF 5))
          (fun C fp s H=>(show PG _ _ (J3e K 2 _) from Z1Z (n:=2) rfl (Z0B (Z0v (i:=0) (show (["_law_one","_law_numbers","_law_world_here"]:List Str).Nodup by decide +kernel) rfl (Or.inl rfl)) (Z0B (Z0v (i:=1) (show (["_law_one","_law_numbers","_law_world_here"]:List Str).Nodup by decide +kernel) rfl (Or.inl rfl)) Z1Y))))
          (fun C fp s H=>(Z0x h__law_alone hr (by first | decide | omega) rfl (Z0a (pvF 2) (Z0a (pvF 0) (Z0a (pvF 1) Z0b))))))
    (Z0d (Z0I (i:=7) sc_law.nd rfl (Or.inl rfl) (Z0D Z0b))
    (Z0d (Z0I (i:=8) sc_law.nd rfl (Or.inl rfl) (Z0D Z0b))
    (Z0d (Z3g PassesOwn.never rfl (Z0Q rfl T.z_range (Z0a Z0c Z0b)) (Z0v (i:=9) sc_law.nd rfl (Or.inl rfl)) (Z0d (Z0L (PW.pt (Z3M (Z0m Z0R (Z0k Z0G (pvF 9) Z0c) Z0c (Z0o _)) (Z2Q (Z0m Z4B (Z0q Z0l rfl T.z_len Z0O (Z0a (pvF 7) Z0b)) Z0c (Z0o _))))) (Z0d (Z1x (Z0u (r:=Z0U K) Z0w (pvF 5) (Z0q Z0l rfl T.z_len Z0O (Z0a (pvF 7) Z0b)) (fun _ _=>rfl)) (Z1Z (n:=2) rfl (Z0B (Z0v (i:=10) sc_law.nd rfl (Or.inl rfl)) (Z0B (Z0v (i:=11) sc_law.nd rfl (Or.inl rfl)) Z1Y))))
    (Z0f (Z0p (Z1h PySem.F.plainAttrs_list PySem.F.slot_list_append PySem.F.type_list_append Z0z (pvF 7) (Z0a (Z0D (Z0a (Z0x h__law_made_one hr (by first | decide | omega) rfl (Z0a (pvF 1) (Z0a (pvF 10) (Z0a (pvF 11) Z0b)))) (Z0a (Z0u (r:=Z0U K) Z0w (pvF 6) (Z0q Z0l rfl T.z_len Z0O (Z0a (pvF 7) Z0b)) (fun _ _=>rfl)) (Z0a Z0c Z0b)))) Z0b))))) Z0C)
    (Z0d (Z0I (i:=12) sc_law.nd rfl (Or.inl rfl) (Z0x h__law_mixed hr (by first | decide | omega) rfl (Z0a (pvF 3) (Z0a (Z0k Z0N Z0c (pvF 9)) Z0b))))
    (Z0d (Z0I (i:=13) sc_law.nd rfl (Or.inl rfl) (Z0u (r:=Z0U K) Z0w (pvF 7) (Z0k Z0G (Z0k Z0E (pvF 12) Z0c) (Z0q Z0l rfl T.z_len Z0O (Z0a (pvF 7) Z0b))) (fun _ _=>rfl)))
    (Z0d (Z0L (PW.pt (J3K (Z8W (Z3d (Z0x h__law_right hr (by first | decide | omega) rfl (Z0a (pvF 13) (Z0a (Z0k Z0E (pvF 12) Z0c) (Z0a (pvF 8) Z0b)))))) (J1S (Z8W (Z3d (Z0x h__law_gone_on hr (by first | decide | omega) rfl (Z0a (pvF 13) Z0b))))))) (Z0f (Z0y Z5g)) Z0C)
    (Z0f (Z0L (PW.pt (Z3M (Z0m Z0R (Z0k Z0G (pvF 12) Z0c) Z0c (Z0o _)) (Z2Q (Z8W (Z3d (Z0x h__law_right hr (by first | decide | omega) rfl (Z0a (Z0u (r:=Z0U K) Z0w (pvF 7) (Z0k Z0G (Z0k Z0E (pvF 12) Z0c) (Z0q Z0l rfl T.z_len Z0O (Z0a (pvF 7) Z0b))) (fun _ _=>rfl)) (Z0a (Z0k Z0E (pvF 12) Z0c) (Z0a (pvF 8) Z0b))))))))) (Z0f (Z0y Z5g)) Z0C)))))))
    (Z0d (Z0L (Z0m J2T (Z0q (r:=Z4k K) (Z2C hr.gd hr.units) rfl T.z_repr Z4g (Z0a (Z0D (Z0a (Z0n (Z0F hr) (pvF 1) Z0g (fun _ _=>rfl)) (Z0a (Z0n (Z0F hr) (pvF 1) Z0g (fun _ _=>rfl)) (Z0a (Z0n (Z0F hr) (pvF 1) Z0g (fun _ _=>rfl)) Z0b)))) Z0b)) (pvF 2) (Z0o _)) (Z0f (Z0y Z5g)) Z0C)
    (Z0f (Z0y (Z2x (r:=rEqN K) (J3Q hr.units) (Z6S rfl (BlockOk.plain (N:=["_law_pair"]) rfl (by decide +kernel) (by decide +kernel) (by decide +kernel)) (Z3l (pvF 8))
          (fun C fp s H=>(Z0v (i:=0) (show (["_law_pair"]:List Str).Nodup by decide +kernel) rfl (Or.inl rfl)))
          (fun C fp s H=>(Z0m (r:=rNeD K) (J4a hr.units) (Z0u (r:=Z0M K) Z0r (pvF 0) Z0c (fun _ _=>rfl)) (Z0u (r:=Z0M K) Z0r (pvF 0) Z0c (fun _ _=>rfl)) (Z0o _))) (fun C fp s H=>(pvF 0))) (Z0D Z0b) (Z0o _)))))))))))))),?_⟩
  refine J5N fun uz10 huz10 uz9 huz9 uz8 huz8 uz7 huz7 uz6 huz6 uz5 huz5 uz4 huz4 uz3 huz3 uz2 huz2 uz1 huz1=>?_
  walk_at "rd"
  have cell:∀ (k:Nat) {H':Hp} {Q':VK} {E':XK},Same H H'→(∀ c,Q' (.int c) H')→Z5h K [.ref a,.int (k:Int)] H' Q' E':=fun k H' Q' E' s h=>⟨a,ns,k,rfl,sq.same s,h⟩
  refine ⟨a,ns,rfl,sq,fun wd bl tb nl W ss bks tabs nums H1 s1 hw g=>?_⟩
  subst huz1
  walk_at "rd"
  obtain ⟨front,b,told,eb,_⟩:=g.mn
  refine ⟨_,hw.get.1,_,hw.get.2.1,_,hw.get.2.2,New.of fun l2 H2 h2 s2 e2=>?_⟩
  have hw2:=hw.same s2
  have nw:=Z7a hw2 g e2
  obtain ⟨p1,p2,p3,p4⟩:=nw.2.rp (by first | decide | omega) (by first | decide | omega)
  refine ⟨_,nw.1,p1,p2,p3,p4,?_⟩
  subst huz2
  walk_at "rd"
  refine cell 7 (s1.trans s2) fun cl=>?_
  subst huz3
  walk_at "rd"
  refine ⟨_,hw2.get.2.2,nl,rfl,⟨_,SqL.of hw2.nn⟩,fun D hD=>?_⟩
  refine Z4N (ys:=nums.map V.int) none [] (fun i v _=>∃ m:Int,v=.int m∧Bd m) (fun _ _ _ _ h _=>h) rfl hD (by rw [sizeLine_eq,List.length_map]; have:=g.nn.2; omega) (fun H3 s3=>SqL.of (s3 _ _ hw2.nn)) (fun i y hy H3 K' s3 kk=>?_) (fun vs H3 s3 e3 lvs hR=>?_)
  · rw [List.getElem?_map] at hy
    obtain ⟨n,hn,rfl⟩:=Option.map_eq_some_iff.mp hy
    walk_at "rd"
    have:=g.nn.1 n (List.mem_of_getElem? hn)
    exact kk _ _ (Same.refl _) ⟨n / 2,rfl,by unfold Mach.Bd at this ⊢; omega⟩
  obtain ⟨oths,rfl,hoths⟩:=Z9g hR
  rw [List.length_map,List.length_map] at lvs
  have hw3:=hw2.same s3
  subst huz4
  walk_at "rd"
  refine ⟨_,hw3.get.2.2,New.of fun t0 H4 h4 s4 e4=>New.of fun t1 H5 h5 s5 e5=>New.of fun t2 H6 h6 s6 e6=>⟨_,(hw3.same (s4.trans (s5.trans s6))).get.2.2,New.of fun t3 H7 h7 s7 e7=>New.of fun ce H8 h8 s8 e8=>?_⟩⟩
  have S8:=s4.trans (s5.trans (s6.trans (s7.trans s8)))
  have hw8:=hw3.same S8
  obtain ⟨ces,hce⟩:∃ ces:List Ce,ces=[⟨t0,cl,nl,nums⟩,⟨t1,cl / 29,D,oths⟩,⟨t2,cl / 7,D,oths⟩,⟨t3,cl / 3,nl,nums⟩]:=⟨_,rfl⟩
  have c8:∀ e∈ces,CeOk H8 nums.length e:=by
    have a1:∀ {t:Addr} {c:Int},H8 t=some (.tup [.int c,.ref nl])→CeOk H8 nums.length ⟨t,c,nl,nums⟩:=fun h=>⟨h,hw8.nn,g.nn.1,rfl⟩
    have a2:∀ {t:Addr} {c:Int},H8 t=some (.tup [.int c,.ref D])→CeOk H8 nums.length ⟨t,c,D,oths⟩:=fun h=>⟨h,S8 _ _ e3,hoths,lvs⟩
    intro e he
    rw [hce] at he
    simp only [List.mem_cons,List.not_mem_nil,or_false] at he
    rcases he with rfl | rfl | rfl | rfl
    · exact a1 ((s5.trans (s6.trans (s7.trans s8))) _ _ e4)
    · exact a2 ((s6.trans (s7.trans s8)) _ _ e5)
    · exact a2 ((s7.trans s8) _ _ e6)
    · exact a1 (s8 _ _ e7)
  have ece:H8 ce=some (.lst (ces.map fun e=>V.ref e.t)):=by rw [e8,hce]; rfl
  have l4:ces.length=4:=by rw [hce]; rfl
  clear hce e8 e4 e5 e6 e7 S8 hw3 e3 hR
  subst huz5
  walk_at "rd"
  refine ⟨⟨_,SqL.of ece⟩,fun AH hAH=>?_⟩
  refine Z6b (ys:=ces.map fun e=>V.ref e.t) (fun σ=>∃ x y,σ=[x,y,some (.ref wd)]) (AlR bks tabs front b ces AH) (fun j v H1 H2 h k=>h.keep k) ⟨none,none,rfl⟩ hAH (by rw [sizeLine_eq,List.length_map,l4]; decide) (fun H9 s9=>SqL.of (s9 _ _ ece)) (fun i y σ hy hσ H9 K' s9 nD kk=>?_) (fun vs H9 s9 e9 lvs9 hR=>?_)
  · obtain ⟨x0,y0,rfl⟩:=hσ
    rw [List.getElem?_map] at hy
    obtain ⟨e,he,rfl⟩:=Option.map_eq_some_iff.mp hy
    obtain ⟨k1,k2,k3,k4⟩:=(c8 e (List.mem_of_getElem? he)).same s9
    obtain ⟨g1,g2,g3,g4,g5⟩:=g.gd eb e.c k3 k4
    walk_at "rd"
    refine ⟨_,SqT.of k1,rfl,_,_,rfl,_,_,rfl,rfl,wd,bl,tb,nl,bks,tabs,nums,e.c,e.n,e.ns,front,b,rfl,hw8.same s9,k2,k3,eb,g1,g2,g3,g4,g5,fun l m H10 s10 f10 e10 td=>kk _ _ _ ⟨_,_,rfl⟩ s10 ⟨e,l,m,he,rfl,fun z=>nD (z▸f10),e10,td⟩⟩
  rw [List.length_map,l4] at lvs9
  have hw9:=hw8.same s9
  have c9:∀ e∈ces,CeOk H9 nums.length e:=fun e he=>(c8 e he).same s9
  have ece9:=s9 _ _ ece
  have S9:Same H H9:=(s1.trans s2).trans (s3.trans ((s4.trans (s5.trans (s6.trans (s7.trans s8)))).trans s9))
  subst huz6
  walk_at "rd"
  refine New.of fun pl Ha ha sa ea=>?_
  subst huz7
  walk_at "rd"
  refine New.of fun hd Hb hb sb eb'=>?_
  have L0:Lw C_Machine C_Places K H9 Hb hd pl [] []:=⟨sa.trans sb,(fun c hc=>by cases hc),(fun i k c e _ h=>by simp at h),(fun c hc=>by cases hc),⟨eb',Z0V sa hb,fun v hv=>by cases hv⟩,⟨sb _ _ ea,ha⟩,fun z=>by rw [z,ea] at hb; cases hb⟩
  clear hw8 c8 ece hw2 hw nw
  subst huz8
  walk_at "rd"
  refine Z1n (LI C_Machine C_Places K H9 hd pl (fun x9 x10 x11 x12 x13=>[some (.ref a),some (.ref wd),some (.str (wE bks tabs nums).shown),some (.int cl),some (.ref D),some (.ref ce),some (.ref AH),some (.ref pl),some (.ref hd),x9,x10,x11,x12,x13])) ⟨H9,[],[],none,none,none,none,none,Same.refl _,L0,Nat.zero_le _,(fun z=>absurd z (by first | decide | omega)),Nat.le_refl _,rfl⟩ (fun k σ Hc hk hI=>?_) (fun σ Hc hI=>?_)
  · obtain ⟨G,ms,hs,x9,x10,x11,x12,x13,sG,L,lms,kms,lhs,rfl⟩:=hI
    rw [Int.zero_add]
    refine seq5 fun uy4 huy4 uy3 huy3 uy2 huy2 uy1 huy1=>?_
    walk_at "rd"
    generalize hJ:LI C_Machine C_Places K H9 hd pl (fun x9 x10 x11 x12 x13=>[some (.ref a),some (.ref wd),some (.str (wE bks tabs nums).shown),some (.int cl),some (.ref D),some (.ref ce),some (.ref AH),some (.ref pl),some (.ref hd),x9,x10,x11,x12,x13]) (k+1)=J
    have tail:∀ {Hd:Hp} {ms:List Mc} {x10 x11:Option V},Lw C_Machine C_Places K G Hd hd pl ms hs→ms.length≤4→1≤ms.length→uy1 { nx:=J,rt:=Q,bk:=uz9 { nx:=fun x H'=>Q V.non H',rt:=Q },ct:=J } [some (.ref a),some (.ref wd),some (.str (wE bks tabs nums).shown),some (.int cl),some (.ref D),some (.ref ce),some (.ref AH),some (.ref pl),some (.ref hd),some (.int k),x10,x11,x12,x13] Hd:=by
      clear L lms kms
      intro Hd ms x10 x11 L lms kms
      subst huy1
      walk_at "rd"
      refine ⟨_,_,rfl,fun r hr=>?_⟩
      subst huy2
      walk_at "rd"
      have pick:∀ (z:Nat),∃ i c,z % ms.length=i∧ms[i]?=some c:=fun z=>⟨_,_,rfl,List.getElem?_eq_getElem (Nat.mod_lt _ kms)⟩
      obtain ⟨i1,c1,ei1,hc1⟩:=pick (r / 8)
      have m1:=List.mem_of_getElem? hc1
      refine ⟨_,.inl (SqL.of L.p.1),by rw [List.length_map]; omega,?_⟩
      rw [List.length_map,show (r:Int) / 8 % (ms.length:Int)=(i1:Int) by rw [← ei1,Int.natCast_emod,Int.natCast_ediv]; rfl]
      have at1:∀ {i:Nat} {c:Mc} {ms:List Mc},ms[i]?=some c→atI (ms.map fun c=>V.ref c.pa) (i:Int)=some (.ref c.pa):=fun h=>Z0P (by rw [List.getElem?_map,h]; rfl)
      refine ⟨_,SqL.of L.p.1,_,at1 hc1,?_⟩
      subst huy3
      walk_at "rd"
      have A1:=L.m c1 m1
      refine ⟨_,c1.o,c1.P,c1.s0,c1.j,c1.m,c1.pa,c1.tl,hd,_,hs,rfl,A1.a,L.g _ _ A1.t,A1.m.m,A1.gd,A1.jm,A1.td.2.1,L.h.1,by omega,fun u v He k1 t1 eh hu hv=>⟨true,rfl,?_⟩⟩
      obtain ⟨G1,sG1,L1⟩:=L.held k1 t1 eh hu hv
      have A1:=L1.m c1 m1
      refine ite2 (fun z=>by cases z) (fun _=>?_)
      have rest:∀ {Hf:Hp} {ms':List Mc},ms'.length=ms.length→Lw C_Machine C_Places K G1 Hf hd pl ms' (hs++[u,v])→uy4 { nx:=J,rt:=Q,bk:=uz9 { nx:=fun x H'=>Q V.non H',rt:=Q },ct:=J } [some (.ref a),some (.ref wd),some (.str (wE bks tabs nums).shown),some (.int cl),some (.ref D),some (.ref ce),some (.ref AH),some (.ref pl),some (.ref hd),some (.int k),x10,x11,some (.int r),some (.ref c1.pa)] Hf:=by
        intro Hf ms' el Lq
        subst huy4
        walk_at "rd"
        walk_at "rd"
        subst hJ
        refine ite2 (fun _=>?_) (fun _=>⟨G1,ms',hs++[u,v],_,_,_,_,_,sG.trans sG1,Lq,by omega,(fun _=>by omega),by rw [List.length_append]; show _+2≤_; omega,rfl⟩)
        have kms':0 < ms'.length:=by omega
        obtain ⟨i2,c2,ei2,hc2⟩:∃ i c,r / 512 % ms'.length=i∧ms'[i]?=some c:=⟨_,_,rfl,List.getElem?_eq_getElem (Nat.mod_lt _ kms')⟩
        have m2:=List.mem_of_getElem? hc2
        have A2:=Lq.m c2 m2
        refine ⟨_,.inl (SqL.of Lq.p.1),by rw [List.length_map]; omega,?_⟩
        rw [List.length_map,show (r:Int) / 512 % (ms'.length:Int)=(i2:Int) by rw [← ei2,Int.natCast_emod,Int.natCast_ediv]; rfl]
        refine ⟨_,SqL.of Lq.p.1,_,at1 hc2,_,c2.o,c2.P,c2.s0,c2.j,c2.m,c2.pa,c2.tl,hd,_,_,rfl,A2.a,Lq.g _ _ A2.t,A2.m.m,A2.gd,A2.jm,A2.td.2.1,Lq.h.1,by rw [List.length_append]; show _+2≤_; omega,fun u' v' Hg k2 t2 eh2 hu2 hv2=>⟨true,rfl,?_⟩⟩
        obtain ⟨G2,sG2,L3⟩:=Lq.held k2 t2 eh2 hu2 hv2
        exact ite2 (fun z=>by cases z) (fun _=>⟨G2,ms',_,_,_,_,_,_,(sG.trans sG1).trans sG2,L3,by omega,(fun _=>by omega),by rw [List.length_append,List.length_append]; show _+2+2≤_; omega,rfl⟩)
      refine ⟨c1.S,c1.o,c1.P,c1.s0,c1.j,c1.m,c1.pa,c1.tl,rfl,A1.a,L1.g _ _ A1.t,A1.m,L1.sp c1 m1 c1 m1,A1.gd,A1.td,A1.jm,fun e=>⟨true,rfl,?_⟩,fun lt Hg o' Hf eg ox kp M'=>⟨true,rfl,?_⟩⟩
      · exact ite2 (fun z=>by cases z) (fun _=>rest rfl L1)
      · obtain ⟨c',ep,Lq⟩:=L1.gone hc1 lt eg ox kp M'
        exact ite2 (fun z=>by cases z) (fun _=>rest (List.length_set ..) Lq)
    have SC:=sG.trans L.g
    have addm:ms.length < 4→∃ x,(SqL K Hc pl x∨SqT K Hc pl x)∧IxL K ce (x.length:Int) Hc fun x H1=>∃ a_1,x=V.ref a_1∧J0S K a_1 2 H1 fun xs=>HdOf xs fun v r=>HdOf r fun v_1 r=>r=[]∧tyV K "list" (V.ref pl) H1∧Z6n C_Machine C_Places K [V.ref wd,v,v_1] H1 (fun x H1=>∃ x_1,(SqL K H1 pl x_1∨SqT K H1 pl x_1)∧IxL K AH (x_1.length:Int) H1 fun x_2 H1=>New H1 (HO.lst [x,x_2,V.int 0]) fun p H2=>∃ x,H2 pl=some (HO.lst x)∧x.length < 16777216∧uy1 { nx:=J,rt:=Q,bk:=uz9 { nx:=fun x H'=>Q V.non H',rt:=Q },ct:=J } [some (.ref a),some (.ref wd),some (.str (wE bks tabs nums).shown),some (.int cl),some (.ref D),some (.ref ce),some (.ref AH),some (.ref pl),some (.ref hd),some (.int k),some v,some v_1,x12,x13] (upd H2 pl (HO.lst (x++[V.ref p])))) E0:=fun lt=>by
      refine ⟨_,.inl (SqL.of L.p.1),?_⟩
      rw [List.length_map]
      have hce:=List.getElem?_eq_getElem (show ms.length < ces.length by omega)
      obtain ⟨v,hv⟩:∃ v,vs[ms.length]?=some v:=⟨_,List.getElem?_eq_getElem (show ms.length < vs.length by omega)⟩
      obtain ⟨e,l,m,he,rfl,_,el,td⟩:=hR _ _ hv
      obtain ⟨k1,k2,k3,k4⟩:=(c9 e (List.mem_of_getElem? he)).same SC
      obtain ⟨g1,g2,g3,g4,g5⟩:=g.gd eb e.c k3 k4
      refine ⟨_,SqL.of (SC _ _ ece9),_,Z0P (by rw [List.getElem?_map,he]; rfl),e.t,rfl,_,SqT.of k1,rfl,_,_,rfl,_,_,rfl,rfl,.inl ⟨rfl,_,SqL.of L.p.1⟩,wd,bl,tb,nl,bks,tabs,nums,e.c,e.n,e.ns,front,b,rfl,hw9.same SC,k2,k3,eb,g1,g2,g3,g4,fun o H1 S s1 M1 n1=>?_⟩
      refine ⟨_,.inl (SqL.of (s1 _ _ L.p.1)),?_⟩
      rw [List.length_map]
      refine ⟨_,SqL.of ((SC.trans s1) _ _ e9),_,Z0P hv,New.of fun pa H2 h2 s2 e2=>⟨_,(s1.trans s2) _ _ L.p.1,by rw [List.length_map]; omega,?_⟩⟩
      exact tail (L.add (c:=⟨S,o,pr bks tabs e.c,Z4o b front.length e.ns,0,m,pa,l⟩) s1 M1 n1 rfl h2 s2 e2 (sG _ _ el) g5 td) (by rw [List.length_append]; show _+1≤_; omega) (by rw [List.length_append]; show 1≤_+1; omega)
    refine ite2 (fun z=>⟨_,.inl (SqL.of L.p.1),ite2 (fun z2=>addm (by rw [List.length_map] at z2; omega)) (fun z2=>tail L lms ?_)⟩) (fun z=>tail L lms (kms ?_))
    · rw [List.length_map] at z2; omega
    · omega
  · obtain ⟨G,ms,hs,x9,x10,x11,x12,x13,sG,L,lms,kms,lhs,rfl⟩:=hI
    subst huz9
    walk_at "rd"
    have SC:=sG.trans L.g
    have hwc:=hw9.same SC
    refine ⟨_,hwc.get.1,_,hwc.get.2.1,_,hwc.get.2.2,New.of fun ld Hd hd' sd ed=>?_⟩
    have nd:=Z7a (hwc.same sd) g ed
    refine ⟨_,nd.1,p1,p2,p3,p4,ite2 (fun z=>absurd rfl z) (fun _=>?_)⟩
    have Ld:=L.same sd
    subst huz10
    walk_at "rd"
    refine ⟨⟨_,SqL.of Ld.h.1⟩,fun Dz hDz=>?_⟩
    refine Z9X none [] (fun _=>false) rfl hDz (by rw [sizeLine_eq]; omega) (fun He se=>SqL.of (se _ _ Ld.h.1)) ?_ ?_
    · intro i y hy He K' se kk
      obtain ⟨t,r0,c0,xs,ds,rfl,w1,w2,w3,w4,w5⟩:=Ld.h.2.2 y (List.mem_of_getElem? hy)
      have Se:=Ld.g.trans se
      have rd:=w4 He (Same.t se)
      have sh:SeqAt.shaped (.list ds)=true:=(Nb.lst w5).shaped (by first | decide | omega)
      walk_at "rd"
      refine ⟨_,SqT.of (Se _ _ w1),_,rfl,_,SqT.of (Se _ _ w1),_,rfl,.list ds,.lst (SqL.of (Se _ _ w2)) rd,.list ds,.lst (SqL.of (Se _ _ w3)) rd,sh,sh,?_⟩
      rw [PySem.SeqAt.eqv_refl _ (Nb.lst w5).lay]
      exact kk _ (Same.refl _)
    · intro zs He se ez _ hz
      have:zs=[]:=hz fun _ _=>rfl
      subst this
      exact New.of fun l0 Hf hf sf ef=>⟨Dz,rfl,_,SqL.of (sf _ _ ez),SqL.of ef,q _⟩
end
end K65
end
end
section
namespace K65
open PySem L2
end K65
end
open PySem PySem.W PyProof.Rows
set_option maxRecDepth 100000 in
set_option maxHeartbeats 0 in
theorem PySem.Challenge.cw_elderhouse_k65_two_by_turns_holds : PySem.Challenge.rw_elderhouse_k65_two_by_turns.Holds := by
 w_on
 refine holds_law K65.ws0 fun said=>?_
 refine holds_open (q:=K65.qv) (loose:=["ROW_SIGNS"]) (Xt:=fun s=>xlAt K65.qv [] s&&recOk (RowW.records K65.rv) s) (XP:=XL K65.qv []) (Yf:=Hook.obs (kHook K65.KK K65.KA K65.ka_eq)) (Ya:=Hook.val (kHook K65.KK K65.KA K65.ka_eq)) (YP:=Hook.says (kHook K65.KK K65.KA K65.ka_eq)) (N:=4492) K65.left (Hook.of (kHook K65.KK K65.KA K65.ka_eq)) (Hook.keeps (kHook K65.KK K65.KA K65.ka_eq)) (fun s e=>xl_of s (Bool.and_eq_true_iff.mp e).1) XL.keeps (by rfl) (by rfl) (by rfl) (fun s e=>recFacts_of (Bool.and_eq_true_iff.mp e).2) (by rfl) said (by decide +kernel) ⟨rfl,rfl,rfl,rfl,rfl,by decide +kernel⟩ ?hw ?hc
 case hw=>w_witness2
 k_fill
 refine L2.J0u (l:=rw0) (n:=63) (k:=20) (x:="_law_script") (CX:=L2.CX0) (sp:=K65.sp_law) rfl (by decide) rfl ⟨rfl,by decide,by decide,rfl⟩ (fun w h Y=>W.kIn_of Y) ?F ?S (fun _ _ _ _ z=>z)
 case F=>
  intro w mg fa h KX G hmg
  have T:∃ C_Places C_Machine D_ROW_SIGNS,K65.Txt (rw0.prog) w (L2.KOf KX) mg C_Places C_Machine D_ROW_SIGNS:=by
   dsimp only [L2.KOf]
   refine' ⟨_,_,_,K65.Txt.mk (W.mg_none_of KX G ?x0) (W.mg_none_of KX G ?x1) (W.mg_none_of KX G ?x2) (W.mg_none_of KX G ?x3) (W.mg_none_of KX G ?x4) (W.mg_none_of KX G ?x5) (W.mg_none_of KX G ?x6) (W.mg_none_of KX G ?x7) (W.mg_none_of KX G ?x8) (L2.Z6m KX G ?x9) (L2.Z6m KX G ?x10) (L2.Z6m KX G ?x11) (L2.J2F KX G ?x12) (L2.J0r ?x13 ?x14 ?x15 ?x16 (by decide) ?x17) (L2.Z1z KX G ?x18 ?x19 ?x20 ?x21) (L2.Z1z KX G ?x22 ?x23 ?x24 ?x25) (L2.Z1z KX G ?x26 ?x27 ?x28 ?x29) (L2.Z1z KX G ?x30 ?x31 ?x32 ?x33) (L2.Z1z KX G ?x34 ?x35 ?x36 ?x37) (L2.Z1z KX G ?x38 ?x39 ?x40 ?x41) (L2.Z1z KX G ?x42 ?x43 ?x44 ?x45) (L2.Z1z KX G ?x46 ?x47 ?x48 ?x49) (L2.Z1z KX G ?x50 ?x51 ?x52 ?x53) (L2.Z1z KX G ?x54 ?x55 ?x56 ?x57) (L2.Z1z KX G ?x58 ?x59 ?x60 ?x61) (L2.Z1z KX G ?x62 ?x63 ?x64 ?x65) (L2.Z1z KX G ?x66 ?x67 ?x68 ?x69) (L2.Z1z KX G ?x70 ?x71 ?x72 ?x73) (L2.Z1z KX G ?x74 ?x75 ?x76 ?x77) (L2.Z1z KX G ?x78 ?x79 ?x80 ?x81) (L2.Z1z KX G ?x82 ?x83 ?x84 ?x85) (L2.Z1z KX G ?x86 ?x87 ?x88 ?x89) (L2.Z1z KX G ?x90 ?x91 ?x92 ?x93) (L2.Z1z KX G ?x94 ?x95 ?x96 ?x97) (L2.Z1z KX G ?x98 ?x99 ?x100 ?x101) (L2.Z1z KX G ?x102 ?x103 ?x104 ?x105) (L2.Z1z KX G ?x106 ?x107 ?x108 ?x109) (L2.Z1z KX G ?x110 ?x111 ?x112 ?x113) (L2.Z1z KX G ?x114 ?x115 ?x116 ?x117) (L2.Z1z KX G ?x118 ?x119 ?x120 ?x121) (L2.Z1z KX G ?x122 ?x123 ?x124 ?x125) (L2.Z1z KX G ?x126 ?x127 ?x128 ?x129) (L2.Z1z KX G ?x130 ?x131 ?x132 ?x133) (L2.Z1z KX G ?x134 ?x135 ?x136 ?x137) (L2.J1F KX G ?x138 ?pg_Places ?hd_Places ?po_Places ?sa_Places ?mk_Places ?kp_Places) (L2.Z1d ?x139) (L2.J1F KX G ?x140 ?pg_Machine ?hd_Machine ?po_Machine ?sa_Machine ?mk_Machine ?kp_Machine) (L2.Z1d ?x141) (L2.Z1d ?x142) (L2.Z1d ?x143) (L2.Z1d ?x144) (L2.Z1d ?x145) (L2.Z1d ?x146) (L2.Z1d ?x147) (L2.Z1d ?x148) (L2.Z1d ?x149) (L2.Z1d ?x150) (L2.Z1d ?x151) (L2.Z1d ?x152) (L2.Z1y ?x153 ?x154 ?x155 ?x156 ?x157) (L2.Z1y ?x158 ?x159 ?x160 ?x161 ?x162) (L2.Z1y ?x163 ?x164 ?x165 ?x166 ?x167) (L2.Z1y ?x168 ?x169 ?x170 ?x171 ?x172) (L2.J2N ?x173 ?x174 ?x175 ?x176 ?x177 ?x178 ?x179 ?x180 ?x181) (L2.Z1y ?x182 ?x183 ?x184 ?x185 ?x186) (L2.Z1y ?x187 ?x188 ?x189 ?x190 ?x191) (L2.Z1y ?x192 ?x193 ?x194 ?x195 ?x196) (L2.Z1y ?x197 ?x198 ?x199 ?x200 ?x201) (L2.Z1y ?x202 ?x203 ?x204 ?x205 ?x206) (L2.Z1y ?x207 ?x208 ?x209 ?x210 ?x211) (L2.Z1y ?x212 ?x213 ?x214 ?x215 ?x216) (L2.Z1y ?x217 ?x218 ?x219 ?x220 ?x221) (L2.Z1y ?x222 ?x223 ?x224 ?x225 ?x226) (L2.Z1y ?x227 ?x228 ?x229 ?x230 ?x231) (L2.Z1y ?x232 ?x233 ?x234 ?x235 ?x236) (L2.Z1y ?x237 ?x238 ?x239 ?x240 ?x241) (L2.Z1y ?x242 ?x243 ?x244 ?x245 ?x246) (L2.Z1y ?x247 ?x248 ?x249 ?x250 ?x251) (L2.Z1y ?x252 ?x253 ?x254 ?x255 ?x256) (L2.Z1y ?x257 ?x258 ?x259 ?x260 ?x261)⟩
   (case x0=>k_is);(case x1=>k_is);(case x2=>k_is);(case x3=>k_is);(case x4=>k_is);(case x5=>k_is);(case x6=>k_is);(case x7=>k_is);(case x8=>k_is);(case x9=>k_is);(case x10=>k_is);(case x11=>k_is);(case x12=>k_is);(case x13=>k_is);(case x14=>exact ⟨rfl,rfl,rfl⟩);(case x15=>exact rfl);(case x16=>exact .cons rfl rfl ⟨_,rfl⟩ (.cons rfl rfl ⟨_,rfl⟩ (.cons rfl rfl ⟨_,rfl⟩ (.cons rfl rfl ⟨_,rfl⟩ (.cons rfl rfl ⟨_,rfl⟩ (.cons rfl rfl ⟨_,rfl⟩ (.nil)))))));(case x17=>exact rfl);(case x18=>k_is);(case x19=>k_is);(case x20=>k_is);(case x21=>k_is);(case x22=>k_is);(case x23=>k_is);(case x24=>k_is);(case x25=>k_is);(case x26=>k_is);(case x27=>k_is);(case x28=>k_is);(case x29=>k_is);(case x30=>k_is);(case x31=>k_is);(case x32=>k_is);(case x33=>k_is);(case x34=>k_is);(case x35=>k_is);(case x36=>k_is);(case x37=>k_is);(case x38=>k_is);(case x39=>k_is);(case x40=>k_is);(case x41=>k_is);(case x42=>k_is);(case x43=>k_is);(case x44=>k_is);(case x45=>k_is);(case x46=>k_is);(case x47=>k_is);(case x48=>k_is);(case x49=>k_is);(case x50=>k_is);(case x51=>k_is);(case x52=>k_is);(case x53=>k_is);(case x54=>k_is);(case x55=>k_is);(case x56=>k_is);(case x57=>k_is);(case x58=>k_is);(case x59=>k_is);(case x60=>k_is);(case x61=>k_is);(case x62=>k_is);(case x63=>k_is);(case x64=>k_is);(case x65=>k_is);(case x66=>k_is);(case x67=>k_is);(case x68=>k_is);(case x69=>k_is);(case x70=>k_is);(case x71=>k_is);(case x72=>k_is);(case x73=>k_is);(case x74=>k_is);(case x75=>k_is);(case x76=>k_is);(case x77=>k_is);(case x78=>k_is);(case x79=>k_is);(case x80=>k_is);(case x81=>k_is);(case x82=>k_is);(case x83=>k_is);(case x84=>k_is);(case x85=>k_is);(case x86=>k_is);(case x87=>k_is);(case x88=>k_is);(case x89=>k_is);(case x90=>k_is);(case x91=>k_is);(case x92=>k_is);(case x93=>k_is);(case x94=>k_is);(case x95=>k_is);(case x96=>k_is);(case x97=>k_is);(case x98=>k_is);(case x99=>k_is);(case x100=>k_is);(case x101=>k_is);(case x102=>k_is);(case x103=>k_is);(case x104=>k_is);(case x105=>k_is);(case x106=>k_is);(case x107=>k_is);(case x108=>k_is);(case x109=>k_is);(case x110=>k_is);(case x111=>k_is);(case x112=>k_is);(case x113=>k_is);(case x114=>k_is);(case x115=>k_is);(case x116=>k_is);(case x117=>k_is);(case x118=>k_is);(case x119=>k_is);(case x120=>k_is);(case x121=>k_is);(case x122=>k_is);(case x123=>k_is);(case x124=>k_is);(case x125=>k_is);(case x126=>k_is);(case x127=>k_is);(case x128=>k_is);(case x129=>k_is);(case x130=>k_is);(case x131=>k_is);(case x132=>k_is);(case x133=>k_is);(case x134=>k_is);(case x135=>k_is);(case x136=>k_is);(case x137=>k_is);(case x138=>k_is);(case pg_Places=>k_is);(case hd_Places=>k_is);(case po_Places=>k_is);(case sa_Places=>k_is);(case mk_Places=>k_is);(case kp_Places=>k_is);(case x139=>k_is);(case x140=>k_is);(case pg_Machine=>k_is);(case hd_Machine=>k_is);(case po_Machine=>k_is);(case sa_Machine=>k_is);(case mk_Machine=>k_is);(case kp_Machine=>k_is);(case x141=>k_is);(case x142=>k_is);(case x143=>k_is);(case x144=>k_is);(case x145=>k_is);(case x146=>k_is);(case x147=>k_is);(case x148=>k_is);(case x149=>k_is);(case x150=>k_is);(case x151=>k_is);(case x152=>k_is);(case x153=>k_is);(case x154=>k_is);(case x155=>k_is);(case x156=>k_is);(case x157=>k_is);(case x158=>k_is);(case x159=>k_is);(case x160=>k_is);(case x161=>k_is);(case x162=>k_is);(case x163=>k_is);(case x164=>k_is);(case x165=>k_is);(case x166=>k_is);(case x167=>k_is);(case x168=>k_is);(case x169=>k_is);(case x170=>k_is);(case x171=>k_is);(case x172=>k_is);(case x173=>k_is);(case x174=>k_is);(case x175=>k_is);(case x176=>k_is);(case x177=>k_is);(case x178=>k_is);(case x179=>exact rfl);(case x180=>exact ⟨_,rfl⟩);(case x181=>exact rfl);(case x182=>k_is);(case x183=>k_is);(case x184=>k_is);(case x185=>k_is);(case x186=>k_is);(case x187=>k_is);(case x188=>k_is);(case x189=>k_is);(case x190=>k_is);(case x191=>k_is);(case x192=>k_is);(case x193=>k_is);(case x194=>k_is);(case x195=>k_is);(case x196=>k_is);(case x197=>k_is);(case x198=>k_is);(case x199=>k_is);(case x200=>k_is);(case x201=>k_is);(case x202=>k_is);(case x203=>k_is);(case x204=>k_is);(case x205=>k_is);(case x206=>k_is);(case x207=>k_is);(case x208=>k_is);(case x209=>k_is);(case x210=>k_is);(case x211=>k_is);(case x212=>k_is);(case x213=>k_is);(case x214=>k_is);(case x215=>k_is);(case x216=>k_is);(case x217=>k_is);(case x218=>k_is);(case x219=>k_is);(case x220=>k_is);(case x221=>k_is);(case x222=>k_is);(case x223=>k_is);(case x224=>k_is);(case x225=>k_is);(case x226=>k_is);(case x227=>k_is);(case x228=>k_is);(case x229=>k_is);(case x230=>k_is);(case x231=>k_is);(case x232=>k_is);(case x233=>k_is);(case x234=>k_is);(case x235=>k_is);(case x236=>k_is);(case x237=>k_is);(case x238=>k_is);(case x239=>k_is);(case x240=>k_is);(case x241=>k_is);(case x242=>k_is);(case x243=>k_is);(case x244=>k_is);(case x245=>k_is);(case x246=>k_is);(case x247=>k_is);(case x248=>k_is);(case x249=>k_is);(case x250=>k_is);(case x251=>k_is);(case x252=>k_is);(case x253=>k_is);(case x254=>k_is);(case x255=>k_is);(case x256=>k_is);(case x257=>k_is);(case x258=>k_is);(case x259=>k_is);(case x260=>k_is);(case x261=>k_is)
  obtain ⟨C_Places,C_Machine,D_ROW_SIGNS,T⟩:=T
  exact L2.J2C T.f_law hmg (fun _ _ _ _ _ _ _=>rfl) fun f fd base F=>K65.ok_law T F
 case S=>exact fun K H a ns hl _ hS=>K65.sp_law_ok hl hS
